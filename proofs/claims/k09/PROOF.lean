import PyProof.Rows.All
import Wide.All
import OpenK.AllK
import Wide.FinOn
import HandS.ForMost
import HandS.ForExc
import HandS.ExcOwn
import HandS.CallSlots
import HandS.IsInst
import HandS.TupAny
import HandS.TupMul
import HandS.Wide
import HandS.Deep
import HandS.Style
import HandS.Conv
import KE.DataFind
import KE.KIndexOf
import HandS.Defaults
import HandS.TryOnly
import HandS.TryMany
import HandS.MakeKw
import KE.GoesMore
import HandS.DictTup
import KE.SortData
import HandS.Zip
import HandS.ExcIs
import HandS.SetFor
import HandS.Flow
import HandS.Strs
import HandS.ExcInit
import HandS.ExcField
import HandS.ClsMeth
import HandS.DictComp
import HandS.SortInts
import HandS.NoneIn
import PySem.Challenge.RW_spentblocks_k09_renamed_by_hand
set_option Elab.async false
set_option linter.all false
set_option maxRecDepth 100000
set_option maxHeartbeats 4000000
/-! Our own layer over HandS: data without addresses, a heap that is a list, functions in the place of readings. -/
namespace Sh
open PySem L2

/-- data: tuples by their items, lists and instances by their number -/
inductive D where
  | non | bl (b : Bool) | int (i : Int) | str (s : Str) | tup (xs : List D) | ref (n : Nat) | scl (xs : List D)
/-- what stands at a number: a list; a list that is only read (the script); an instance; a dict -/
inductive O where
  | lst (xs : List D) | scr (xs : List D) | ins (c : Str) (fs : List (Str × D)) | dk (kvs : List (Key × D))
abbrev Hm := List O
inductive RD where
  | ok (d : D) (h : Hm) | exc (c : Str) (fs : List (Str × D)) (h : Hm) | bad
inductive RA where
  | ok (ds : List D) (h : Hm) | exc (c : Str) (fs : List (Str × D)) (h : Hm) | bad
abbrev DS := List (Option D)
inductive RT where
  | nx (s : DS) (h : Hm) | rt (d : D) (h : Hm) | bk (s : DS) (h : Hm) | ct (s : DS) (h : Hm) | exc (c : Str) (fs : List (Str × D)) (s : DS) (h : Hm) | bad
abbrev FE := DS → Hm → RD
abbrev FA := DS → Hm → RA
abbrev FS := DS → Hm → RT
abbrev FF := List D → Hm → RD
def RD.bind (r : RD) (k : D → Hm → RD) : RD := match r with
  | .ok d h => k d h
  | .exc c fs h => .exc c fs h
  | .bad => .bad
@[simp] theorem RD.bind_ok (d : D) (h : Hm) (k : D → Hm → RD) : (RD.ok d h).bind k = k d h := rfl
@[simp] theorem RD.bind_exc (c fs) (h : Hm) (k : D → Hm → RD) : (RD.exc c fs h).bind k = .exc c fs h := rfl
@[simp] theorem RD.bind_bad (k : D → Hm → RD) : RD.bad.bind k = .bad := rfl

mutual
def D.beq : D → D → Bool
  | .non, .non => true
  | .bl a, .bl b => a == b
  | .int a, .int b => a == b
  | .str a, .str b => a == b
  | .tup a, .tup b => D.beqL a b
  | .ref a, .ref b => a == b
  | .scl a, .scl b => D.beqL a b
  | _, _ => false
def D.beqL : List D → List D → Bool
  | [], [] => true
  | a :: l, b :: r => D.beq a b && D.beqL l r
  | _, _ => false
end
mutual
theorem D.beq_eq : ∀ a b : D, D.beq a b = true → a = b
  | .non, b, h => by cases b <;> simp [D.beq] at h ⊢
  | .bl a, b, h => by cases b <;> simp [D.beq] at h ⊢; exact h
  | .int a, b, h => by cases b <;> simp [D.beq] at h ⊢; exact h
  | .str a, b, h => by cases b <;> simp [D.beq] at h ⊢; exact h
  | .tup a, b, h => by
    cases b <;> simp [D.beq] at h ⊢
    exact D.beqL_eq _ _ h
  | .ref a, b, h => by cases b <;> simp [D.beq] at h ⊢; exact h
  | .scl a, b, h => by
    cases b <;> simp [D.beq] at h ⊢
    exact D.beqL_eq _ _ h
theorem D.beqL_eq : ∀ a b : List D, D.beqL a b = true → a = b
  | [], b, h => by cases b <;> simp [D.beqL] at h ⊢
  | a :: l, b, h => by
    cases b with
    | nil => simp [D.beqL] at h
    | cons c r =>
      simp [D.beqL] at h
      rw [D.beq_eq _ _ h.1, D.beqL_eq _ _ h.2]
end
mutual
theorem D.beq_self : ∀ a : D, D.beq a a = true
  | .non => rfl
  | .bl a => by simp [D.beq]
  | .int a => by simp [D.beq]
  | .str a => by simp [D.beq]
  | .tup a => by simp [D.beq]; exact D.beqL_self a
  | .ref a => by simp [D.beq]
  | .scl a => by simp [D.beq]; exact D.beqL_self a
theorem D.beqL_self : ∀ a : List D, D.beqL a a = true
  | [] => rfl
  | a :: l => by simp [D.beqL]; exact ⟨D.beq_self a, D.beqL_self l⟩
end
theorem D.beq_iff (a b : D) : D.beq a b = true ↔ a = b := ⟨D.beq_eq a b, fun h => h ▸ D.beq_self a⟩
theorem D.beqL_iff (a b : List D) : D.beqL a b = true ↔ a = b := ⟨D.beqL_eq a b, fun h => h ▸ D.beqL_self a⟩
instance : DecidableEq D := fun a b => decidable_of_iff _ (D.beq_iff a b)

/-! ### what a value says -/
/-- a tuple that is known to have no dict of its own -/
def TupS (K : PySem.W.Frag) (H : Hp) (a : Addr) (xs : List V) : Prop :=
  (∃ o, H a = some (.frz o (.tup xs)) ∧ o.dict = none) ∨
    ∃ (o : Obj) (its : Array Value) (n : Nat), K.lookup a = some o ∧ o.cls = .type "tuple" ∧ o.dict = none ∧ o.data = .seq its n ∧ its.size ≤ sizeLine ∧ Vals xs its.toList
theorem TupS.sqT {K : PySem.W.Frag} {H : Hp} {a : Addr} {xs : List V} (h : TupS K H a xs) : SqT K H a xs := by
  rcases h with ⟨o, h, _⟩ | ⟨o, its, n, h1, h2, _, h3⟩
  · exact .inl (.inr ⟨o, h⟩)
  · exact .inr ⟨o, its, n, h1, h2, h3⟩
/-- a list that nobody changes -/
def SclS (K : PySem.W.Frag) (H : Hp) (a : Addr) (xs : List V) : Prop :=
  (∃ o, H a = some (.frz o (.lst xs))) ∨
    ∃ (o : Obj) (its : Array Value) (n : Nat), K.lookup a = some o ∧ o.cls = .type "list" ∧ o.dict = none ∧ o.data = .seq its n ∧ its.size ≤ sizeLine ∧ Vals xs its.toList
theorem SclS.sqL {K : PySem.W.Frag} {H : Hp} {a : Addr} {xs : List V} (h : SclS K H a xs) : SqL K H a xs := by
  rcases h with ⟨o, h⟩ | h
  · exact .inl (.inr ⟨o, h⟩)
  · exact .inr h
section
variable (K : PySem.W.Frag) (m : List Addr) (H : Hp)
mutual
inductive Rep : V → D → Prop
  | non : Rep .non .non
  | bl (b : Bool) : Rep (.bl b) (.bl b)
  | int (i : Int) : Rep (.int i) (.int i)
  | str (x : Str) : Rep (.str x) (.str x)
  | tup {a : Addr} {vs : List V} {ds : List D} : TupS K H a vs → RepL vs ds → Rep (.ref a) (.tup ds)
  | ref {n : Nat} {a : Addr} : m[n]? = some a → Rep (.ref a) (.ref n)
  | scl {a : Addr} {vs : List V} {ds : List D} : SclS K H a vs → RepL vs ds → Rep (.ref a) (.scl ds)
inductive RepL : List V → List D → Prop
  | nil : RepL [] []
  | cons {v : V} {d : D} {vs : List V} {ds : List D} : Rep v d → RepL vs ds → RepL (v :: vs) (d :: ds)
end
end
structure Grow (m : List Addr) (H : Hp) (m' : List Addr) (H' : Hp) : Prop where
  loc : ∀ (n : Nat) (a : Addr), m[n]? = some a → m'[n]? = some a
  frz : ∀ (a : Addr) (o : Obj) (u : HO), H a = some (.frz o u) → H' a = some (.frz o u)
theorem Grow.refl (m : List Addr) (H : Hp) : Grow m H m H := ⟨fun _ _ h => h, fun _ _ _ h => h⟩
theorem Grow.trans {m m1 m2 : List Addr} {H H1 H2 : Hp} (a : Grow m H m1 H1) (b : Grow m1 H1 m2 H2) : Grow m H m2 H2 := ⟨fun n c h => b.loc n c (a.loc n c h), fun c o u h => b.frz c o u (a.frz c o u h)⟩
section
variable {K : PySem.W.Frag} {mg : Str → Option Value} {m m' : List Addr} {H H' : Hp}
theorem Grow.tupS (g : Grow m H m' H') {a : Addr} {vs : List V} (h : TupS K H a vs) : TupS K H' a vs := by
  rcases h with ⟨o, h, e⟩ | h
  · exact .inl ⟨o, g.frz _ _ _ h, e⟩
  · exact .inr h
theorem Grow.sclS (g : Grow m H m' H') {a : Addr} {vs : List V} (h : SclS K H a vs) : SclS K H' a vs := by
  rcases h with ⟨o, h⟩ | h
  · exact .inl ⟨o, g.frz _ _ _ h⟩
  · exact .inr h
mutual
theorem Rep.grow (g : Grow m H m' H') : ∀ {v : V} {d : D}, Rep K m H v d → Rep K m' H' v d
  | _, _, .non => .non
  | _, _, .bl b => .bl b
  | _, _, .int i => .int i
  | _, _, .str x => .str x
  | _, _, .tup h r => .tup (g.tupS h) (RepL.grow g r)
  | _, _, .ref h => .ref (g.loc _ _ h)
  | _, _, .scl h r => .scl (g.sclS h) (RepL.grow g r)
theorem RepL.grow (g : Grow m H m' H') : ∀ {vs : List V} {ds : List D}, RepL K m H vs ds → RepL K m' H' vs ds
  | _, _, .nil => .nil
  | _, _, .cons h r => .cons (Rep.grow g h) (RepL.grow g r)
end
theorem RepL.length : ∀ {vs : List V} {ds : List D}, RepL K m H vs ds → vs.length = ds.length
  | _, _, .nil => rfl
  | _, _, .cons _ r => by simp [RepL.length r]
theorem RepL.get : ∀ {vs : List V} {ds : List D} {i : Nat} {d : D}, RepL K m H vs ds → ds[i]? = some d → ∃ v, vs[i]? = some v ∧ Rep K m H v d
  | _, _, _, _, .nil, e => by simp at e
  | _, _, 0, _, .cons r _, e => by simp at e; subst e; exact ⟨_, rfl, r⟩
  | _, _, i + 1, d, .cons _ t, e => by
    obtain ⟨v, h1, h2⟩ := RepL.get (i := i) (d := d) t (by simpa using e)
    exact ⟨v, by simpa using h1, h2⟩
theorem RepL.get' : ∀ {vs : List V} {ds : List D} {i : Nat} {v : V}, RepL K m H vs ds → vs[i]? = some v → ∃ d, ds[i]? = some d ∧ Rep K m H v d
  | _, _, _, _, .nil, e => by simp at e
  | _, _, 0, _, .cons r _, e => by simp at e; subst e; exact ⟨_, rfl, r⟩
  | _, _, i + 1, d, .cons _ t, e => by
    obtain ⟨v, h1, h2⟩ := RepL.get' (i := i) (v := d) t (by simpa using e)
    exact ⟨v, by simpa using h1, h2⟩
theorem RepL.app : ∀ {vs ws : List V} {ds es : List D}, RepL K m H vs ds → RepL K m H ws es → RepL K m H (vs ++ ws) (ds ++ es)
  | _, _, _, _, .nil, s => s
  | _, _, _, _, .cons r t, s => .cons r (RepL.app t s)
theorem RepL.take : ∀ {vs : List V} {ds : List D} (n : Nat), RepL K m H vs ds → RepL K m H (vs.take n) (ds.take n)
  | _, _, 0, _ => .nil
  | _, _, _ + 1, .nil => .nil
  | _, _, n + 1, .cons r t => .cons r (RepL.take n t)
theorem RepL.drop : ∀ {vs : List V} {ds : List D} (n : Nat), RepL K m H vs ds → RepL K m H (vs.drop n) (ds.drop n)
  | _, _, 0, r => r
  | _, _, _ + 1, .nil => .nil
  | _, _, n + 1, .cons _ t => RepL.drop n t
theorem RepL.set {v : V} {d : D} (r : Rep K m H v d) : ∀ {vs : List V} {ds : List D} (n : Nat), RepL K m H vs ds → RepL K m H (vs.set n v) (ds.set n d)
  | _, _, _, .nil => .nil
  | _, _, 0, .cons _ t => .cons r t
  | _, _, n + 1, .cons q t => .cons q (RepL.set r n t)
theorem RepL.reverse : ∀ {vs : List V} {ds : List D}, RepL K m H vs ds → RepL K m H vs.reverse ds.reverse
  | _, _, .nil => .nil
  | _, _, .cons r t => by rw [List.reverse_cons, List.reverse_cons]; exact (RepL.reverse t).app (.cons r .nil)
theorem RepL.eraseIdx : ∀ {vs : List V} {ds : List D} (n : Nat), RepL K m H vs ds → RepL K m H (vs.eraseIdx n) (ds.eraseIdx n)
  | _, _, _, .nil => .nil
  | _, _, 0, .cons _ t => t
  | _, _, n + 1, .cons r t => .cons r (RepL.eraseIdx n t)
theorem RepL.rep {v : V} {d : D} (r : Rep K m H v d) : ∀ n : Nat, RepL K m H (List.replicate n v) (List.replicate n d)
  | 0 => .nil
  | n + 1 => .cons r (RepL.rep r n)

theorem Rep.int_inv {v : V} {i : Int} (r : Rep K m H v (.int i)) : v = .int i := by cases r; rfl
theorem Rep.bl_inv {v : V} {b : Bool} (r : Rep K m H v (.bl b)) : v = .bl b := by cases r; rfl
theorem Rep.str_inv {v : V} {x : Str} (r : Rep K m H v (.str x)) : v = .str x := by cases r; rfl
theorem Rep.non_inv {v : V} (r : Rep K m H v .non) : v = .non := by cases r; rfl
theorem Rep.tup_inv {v : V} {ds : List D} (r : Rep K m H v (.tup ds)) : ∃ a vs, v = .ref a ∧ TupS K H a vs ∧ RepL K m H vs ds := by cases r with | tup h r => exact ⟨_, _, rfl, h, r⟩
theorem Rep.scl_inv {v : V} {ds : List D} (r : Rep K m H v (.scl ds)) : ∃ a vs, v = .ref a ∧ SclS K H a vs ∧ RepL K m H vs ds := by cases r with | scl h r => exact ⟨_, _, rfl, h, r⟩
theorem Rep.ref_inv {v : V} {n : Nat} (r : Rep K m H v (.ref n)) : ∃ a, v = .ref a ∧ m[n]? = some a := by cases r with | ref h => exact ⟨_, rfl, h⟩
end

/-! ### the heap -/
def RepF (K : PySem.W.Frag) (m : List Addr) (H : Hp) : List (Str × V) → List (Str × D) → Prop := Paired fun p q => p.1 = q.1 ∧ Rep K m H p.2 q.2
def RepK (K : PySem.W.Frag) (m : List Addr) (H : Hp) : List (Key × V) → List (Key × D) → Prop := Paired fun p q => p.1 = q.1 ∧ Rep K m H p.2 q.2
def ObjR (K : PySem.W.Frag) (mg : Str → Option Value) (m : List Addr) (H : Hp) (a : Addr) : O → Prop
  | .lst ds => ∃ vs, H a = some (.lst vs) ∧ RepL K m H vs ds
  | .scr ds => ∃ vs, Rd H a (.lst vs) ∧ RepL K m H vs ds
  | .ins c fs => ∃ C dx fv, mg c = some (.ref C) ∧ H a = some (.ins C dx fv) ∧ RepF K m H fv fs
  | .dk kvs => ∃ kv, H a = some (.dK kv) ∧ RepK K m H kv kvs
structure R (K : PySem.W.Frag) (mg : Str → Option Value) (m : List Addr) (H : Hp) (h : Hm) : Prop where
  len : m.length = h.length
  nd : m.Nodup
  ob : ∀ (n : Nat) (a : Addr) (o : O), m[n]? = some a → h[n]? = some o → ObjR K mg m H a o
def RS (K : PySem.W.Frag) (m : List Addr) (H : Hp) (σ : L2.St) (s : DS) : Prop := σ.length = s.length ∧ ∀ (i : Nat) (d : D), s[i]? = some (some d) → ∃ v, σ[i]? = some (some v) ∧ Rep K m H v d
section
variable {K : PySem.W.Frag} {mg : Str → Option Value} {m m' : List Addr} {H H' : Hp} {h h' : Hm} {a p : Addr} {n : Nat} {o : O} {u : HO} {s : DS} {σ : L2.St}
theorem RepF.grow (g : Grow m H m' H') {x : List (Str × V)} {y : List (Str × D)} (r : RepF K m H x y) : RepF K m' H' x y := Paired.mapP r fun _ _ z => ⟨z.1, z.2.grow g⟩
theorem RepK.grow (g : Grow m H m' H') {x : List (Key × V)} {y : List (Key × D)} (r : RepK K m H x y) : RepK K m' H' x y := Paired.mapP r fun _ _ z => ⟨z.1, z.2.grow g⟩
theorem ObjR.grow (g : Grow m H m' H') (e : H' a = H a) : ObjR K mg m H a o → ObjR K mg m' H' a o := by
  cases o with
  | lst ds => rintro ⟨vs, h1, h2⟩; exact ⟨vs, by rw [e]; exact h1, h2.grow g⟩
  | scr ds => rintro ⟨vs, h1, h2⟩; exact ⟨vs, by unfold Rd; rw [e]; exact h1, h2.grow g⟩
  | ins c fs => rintro ⟨C, dx, fv, h0, h1, h2⟩; exact ⟨C, dx, fv, h0, by rw [e]; exact h1, h2.grow g⟩
  | dk kvs => rintro ⟨kv, h1, h2⟩; exact ⟨kv, by rw [e]; exact h1, h2.grow g⟩
theorem ObjR.there (x : ObjR K mg m H a o) : H a ≠ none := by
  cases o with
  | lst ds => obtain ⟨vs, h1, h2⟩ := x; rw [h1]; exact fun z => by cases z
  | scr ds =>
    obtain ⟨vs, h1 | ⟨_, h1⟩, h2⟩ := x
    · rw [h1]; exact fun z => by cases z
    · rw [h1]; exact fun z => by cases z
  | ins c fs => obtain ⟨C, dx, fv, h0, h1, h2⟩ := x; rw [h1]; exact fun z => by cases z
  | dk kvs => obtain ⟨kv, h1, h2⟩ := x; rw [h1]; exact fun z => by cases z
/-- of what may be changed -/
def O.isMut : O → Bool
  | .scr _ => false
  | _ => true
theorem ObjR.nofrz (x : ObjR K mg m H a o) (hm : o.isMut = true) {ob : Obj} {u : HO} : H a ≠ some (.frz ob u) := by
  cases o with
  | lst ds => obtain ⟨vs, h1, h2⟩ := x; rw [h1]; exact fun z => by cases z
  | scr ds => cases hm
  | ins c fs => obtain ⟨C, dx, fv, h0, h1, h2⟩ := x; rw [h1]; exact fun z => by cases z
  | dk kvs => obtain ⟨kv, h1, h2⟩ := x; rw [h1]; exact fun z => by cases z
theorem R.at (r : R K mg m H h) (e : h[n]? = some o) : ∃ a, m[n]? = some a ∧ ObjR K mg m H a o := by
  have hl := (List.getElem?_eq_some_iff.mp e).1
  have hm : n < m.length := by rw [r.len]; exact hl
  exact ⟨m[n], List.getElem?_eq_getElem hm, r.ob n _ o (List.getElem?_eq_getElem hm) e⟩
theorem R.at' (r : R K mg m H h) (e : m[n]? = some a) : ∃ o, h[n]? = some o ∧ ObjR K mg m H a o := by
  have hl := (List.getElem?_eq_some_iff.mp e).1
  have hm : n < h.length := by rw [← r.len]; exact hl
  exact ⟨h[n], List.getElem?_eq_getElem hm, r.ob n _ _ e (List.getElem?_eq_getElem hm)⟩
theorem R.there (r : R K mg m H h) (e : m[n]? = some a) : H a ≠ none := by
  obtain ⟨o, _, x⟩ := r.at' e
  exact x.there
theorem Grow.new (hp : H p = none) : Grow m H m (upd H p u) := ⟨fun _ _ h => h, fun a o u h => by
  rw [upd_ne (ne_of_none h hp)]
  exact h⟩
theorem Grow.more (t : List Addr) : Grow m H (m ++ t) H := ⟨fun n a e => by rw [List.getElem?_append_left (List.getElem?_eq_some_iff.mp e).1]; exact e, fun _ _ _ h => h⟩
theorem Grow.newr (hp : H p = none) : Grow m H (m ++ [p]) (upd H p u) := (Grow.new hp).trans (Grow.more _)
/-- a new thing that is no tuple -/
theorem R.new (r : R K mg m H h) (hp : H p = none) (x : ObjR K mg (m ++ [p]) (upd H p u) p o) : R K mg (m ++ [p]) (upd H p u) (h ++ [o]) := by
  have np : p ∉ m := fun z => by
    obtain ⟨n, hn, e⟩ := List.mem_iff_getElem.mp z
    exact r.there (n := n) (a := p) (by rw [List.getElem?_eq_getElem hn, e]) hp
  refine ⟨by simp [r.len], ?_, fun n a o' e1 e2 => ?_⟩
  · rw [List.nodup_append]
    refine ⟨r.nd, by simp, fun a ha b hb => ?_⟩
    have : b = p := by simpa using hb
    subst this
    rintro rfl
    exact np ha
  · by_cases hn : n < m.length
    · rw [List.getElem?_append_left hn] at e1
      rw [List.getElem?_append_left (by rw [← r.len]; exact hn)] at e2
      have ne : a ≠ p := by
        rintro rfl
        exact r.there e1 hp
      exact (r.ob n a o' e1 e2).grow (Grow.newr hp) (upd_ne ne)
    · have hn' : ¬ n < h.length := by rw [← r.len]; exact hn
      rw [List.getElem?_append_right (by omega)] at e1 e2
      have e : n - m.length = 0 := by
        have := (List.getElem?_eq_some_iff.mp e1).1
        simp at this
        omega
      rw [e] at e1
      rw [← r.len, e] at e2
      simp at e1 e2
      subst e1 e2
      exact x
theorem R.newAt (r : R K mg m H h) : (m ++ [p])[h.length]? = some p := by
  rw [← r.len, List.getElem?_append_right (Nat.le_refl _)]
  simp
/-- a new tuple -/
theorem R.tup (r : R K mg m H h) (hp : H p = none) : R K mg m (upd H p u) h :=
  ⟨r.len, r.nd, fun n a o e1 e2 => by
    have ne : a ≠ p := by
      rintro rfl
      exact r.there e1 hp
    exact (r.ob n a o e1 e2).grow (Grow.new hp) (upd_ne ne)⟩
theorem Grow.set {o' : O} (x : ObjR K mg m H a o') (hm : o'.isMut = true) : Grow m H m (upd H a u) := ⟨fun _ _ h => h, fun b ob u h => by
  have ne : b ≠ a := by
    rintro rfl
    exact x.nofrz hm h
  rw [upd_ne ne]
  exact h⟩
/-- a thing is changed -/
theorem R.set {o' : O} (r : R K mg m H h) (e : m[n]? = some a) (e' : h[n]? = some o') (hm : o'.isMut = true) (x : ObjR K mg m (upd H a u) a o) : R K mg m (upd H a u) (h.set n o) := by
  have xo := r.ob n a o' e e'
  have hl := (List.getElem?_eq_some_iff.mp e').1
  refine ⟨by simp [r.len], r.nd, fun k b ob e1 e2 => ?_⟩
  by_cases hk : k = n
  · subst hk
    rw [e] at e1
    cases e1
    rw [List.getElem?_set_self hl] at e2
    cases e2
    exact x
  · rw [List.getElem?_set_ne (fun z => hk z.symm)] at e2
    have ne : b ≠ a := by
      rintro rfl
      obtain ⟨h1, e1'⟩ := List.getElem?_eq_some_iff.mp e1
      obtain ⟨h2, e2'⟩ := List.getElem?_eq_some_iff.mp e
      exact hk ((List.getElem_inj r.nd).mp (e1'.trans e2'.symm))
    exact (r.ob k b ob e1 e2).grow (Grow.set xo hm) (upd_ne ne)
theorem RS.grow (g : Grow m H m' H') (x : RS K m H σ s) : RS K m' H' σ s := ⟨x.1, fun i d e => by
  obtain ⟨v, h1, h2⟩ := x.2 i d e
  exact ⟨v, h1, h2.grow g⟩⟩
theorem RS.set {v : V} {d : D} (x : RS K m H σ s) (i : Nat) (r : Rep K m H v d) : RS K m H (σ.set i (some v)) (s.set i (some d)) := ⟨by simp [x.1], fun j e hj => by
  by_cases hi : j = i
  · subst hi
    have hl : j < s.length := by
      have := (List.getElem?_eq_some_iff.mp hj).1
      simpa using this
    rw [List.getElem?_set_self hl] at hj
    cases hj
    exact ⟨v, by rw [List.getElem?_set_self (by rw [x.1]; exact hl)], r⟩
  · rw [List.getElem?_set_ne (fun z => hi z.symm)] at hj
    obtain ⟨w, h1, h2⟩ := x.2 j e hj
    exact ⟨w, by rw [List.getElem?_set_ne (fun z => hi z.symm)]; exact h1, h2⟩⟩
theorem RS.clr (x : RS K m H σ s) (i : Nat) : RS K m H (σ.set i none) (s.set i none) := ⟨by simp [x.1], fun j e hj => by
  by_cases hi : j = i
  · subst hi
    have hl : j < s.length := by
      have := (List.getElem?_eq_some_iff.mp hj).1
      simpa using this
    rw [List.getElem?_set_self hl] at hj
    cases hj
  · rw [List.getElem?_set_ne (fun z => hi z.symm)] at hj
    obtain ⟨w, h1, h2⟩ := x.2 j e hj
    exact ⟨w, by rw [List.getElem?_set_ne (fun z => hi z.symm)]; exact h1, h2⟩⟩
theorem RS.start {vs : List V} {ds : List D} (N : List Str) (r : RepL K m H vs ds) : RS K m H (start N vs) (ds.map some ++ List.replicate (N.length - ds.length) none) := by
  unfold L2.start
  refine ⟨by simp [r.length], fun i d e => ?_⟩
  by_cases hi : i < ds.length
  · rw [List.getElem?_append_left (by simpa using hi), List.getElem?_map] at e
    cases q : ds[i]? with
    | none => rw [q] at e; cases e
    | some d' =>
      rw [q] at e
      cases e
      obtain ⟨v, h1, h2⟩ := r.get q
      exact ⟨v, by rw [List.getElem?_append_left (by simpa [r.length] using hi), List.getElem?_map, h1]; rfl, h2⟩
  · rw [List.getElem?_append_right (by simpa using hi), List.getElem?_replicate] at e
    split at e <;> cases e
end

/-! ### what is wanted behind a result -/
def ExcAt (K : PySem.W.Frag) (mg : Str → Option Value) (m : List Addr) (H : Hp) (cls : Value) (dx : Option Addr) (c : Str) (fs : List (Str × D)) : Prop :=
  ∃ C, mg c = some (.ref C) ∧ cls = .ref C ∧ (fs ≠ [] → ∃ a fv, dx = some a ∧ H a = some (.xd fv) ∧ RepF K m H fv fs)
section
variable (K : PySem.W.Frag) (mg : Str → Option Value)
def PostE (W : XK) (m : List Addr) (H : Hp) (r : RD) (Q : VK) : Prop := match r with
  | .ok d h' => ∀ m' H' v, Grow m H m' H' → R K mg m' H' h' → Rep K m' H' v d → Q v H'
  | .exc c fs h' => ∀ m' H' cls dx, Grow m H m' H' → R K mg m' H' h' → ExcAt K mg m' H' cls dx c fs → W cls dx H'
  | .bad => False
def PostA (W : XK) (m : List Addr) (H : Hp) (r : RA) (Q : List V → Hp → Prop) : Prop := match r with
  | .ok ds h' => ∀ m' H' vs, Grow m H m' H' → R K mg m' H' h' → RepL K m' H' vs ds → Q vs H'
  | .exc c fs h' => ∀ m' H' cls dx, Grow m H m' H' → R K mg m' H' h' → ExcAt K mg m' H' cls dx c fs → W cls dx H'
  | .bad => False
def PostT (W : XK) (m : List Addr) (H : Hp) (r : RD) (Q : Bool → Hp → Prop) : Prop := match r with
  | .ok (.bl b) h' => ∀ m' H', Grow m H m' H' → R K mg m' H' h' → Q b H'
  | .ok _ _ => False
  | .exc c fs h' => ∀ m' H' cls dx, Grow m H m' H' → R K mg m' H' h' → ExcAt K mg m' H' cls dx c fs → W cls dx H'
  | .bad => False
def PostS (W : WX) (m : List Addr) (H : Hp) (r : RT) (E : Ends) : Prop := match r with
  | .nx s' h' => ∀ m' H' σ', Grow m H m' H' → R K mg m' H' h' → RS K m' H' σ' s' → E.nx σ' H'
  | .bk s' h' => ∀ m' H' σ', Grow m H m' H' → R K mg m' H' h' → RS K m' H' σ' s' → E.bk σ' H'
  | .ct s' h' => ∀ m' H' σ', Grow m H m' H' → R K mg m' H' h' → RS K m' H' σ' s' → E.ct σ' H'
  | .rt d h' => ∀ m' H' v, Grow m H m' H' → R K mg m' H' h' → Rep K m' H' v d → E.rt v H'
  | .exc c fs s' h' => ∀ m' H' σ' cls dx, Grow m H m' H' → R K mg m' H' h' → RS K m' H' σ' s' → ExcAt K mg m' H' cls dx c fs → W cls dx σ' H'
  | .bad => False
def tS (W : WX) (f : FE) : TE := fun σ H Q => ∃ m s h, R K mg m H h ∧ RS K m H σ s ∧ PostE K mg (fun c d H' => W c d σ H') m H (f s h) Q
def tSA (W : WX) (f : FA) : TA := fun σ H Q => ∃ m s h, R K mg m H h ∧ RS K m H σ s ∧ PostA K mg (fun c d H' => W c d σ H') m H (f s h) Q
def tST (W : WX) (f : FE) : TT := fun σ H Q => ∃ m s h, R K mg m H h ∧ RS K m H σ s ∧ PostT K mg (fun c d H' => W c d σ H') m H (f s h) Q
def tSS (W : WX) (f : FS) : TS := fun E σ H => ∃ m s h, R K mg m H h ∧ RS K m H σ s ∧ PostS K mg W m H (f s h) E
end
def SE (X : Cx) (W : WX) (e : Expr) (f : FE) : Prop := PE X e (tS X.K X.mg W f)
def SA (X : Cx) (W : WX) (es : List Expr) (f : FA) : Prop := PA X es (tSA X.K X.mg W f)
def ST (X : Cx) (W : WX) (e : Expr) (f : FE) : Prop := PT X e (tST X.K X.mg W f)
def SW (X : Cx) (W : WX) (e : Expr) (f : FE) : Prop := PW X e (tST X.K X.mg W f)
def SS (X : Cx) (W : WX) (st : Stmt) (f : FS) : Prop := PS X st (tSS X.K X.mg W f)
def SSs (X : Cx) (W : WX) (st : List Stmt) (f : FS) : Prop := PSs X st (tSS X.K X.mg W f)

theorem PE.imp {X : Cx} {e : Expr} {t t' : TE} (h : PE X e t) (k : ∀ σ H Q, t' σ H Q → t σ H Q) : PE X e t' := ⟨fun pins s σ H Q I q => h.run pins s σ H Q I (k _ _ _ q)⟩
theorem PA.imp {X : Cx} {e : List Expr} {t t' : TA} (h : PA X e t) (k : ∀ σ H Q, t' σ H Q → t σ H Q) : PA X e t' := ⟨fun pos pins s σ H Q I q => h.run pos pins s σ H Q I (k _ _ _ q)⟩
theorem PT.imp {X : Cx} {e : Expr} {t t' : TT} (h : PT X e t) (k : ∀ σ H Q, t' σ H Q → t σ H Q) : PT X e t' := ⟨fun pins s σ H Q I q => h.run pins s σ H Q I (k _ _ _ q)⟩
theorem PW.imp {X : Cx} {e : Expr} {t t' : TT} (h : PW X e t) (k : ∀ σ H Q, t' σ H Q → t σ H Q) : PW X e t' := ⟨fun wh pins s σ H Q I q => h.run wh pins s σ H Q I (k _ _ _ q)⟩
theorem PS.imp {X : Cx} {e : Stmt} {t t' : TS} (h : PS X e t) (k : ∀ D σ H, t' D σ H → t D σ H) : PS X e t' := ⟨fun pins s σ H D I q => h.run pins s σ H D I (k _ _ _ q)⟩
theorem PSs.imp {X : Cx} {e : List Stmt} {t t' : TS} (h : PSs X e t) (k : ∀ D σ H, t' D σ H → t D σ H) : PSs X e t' := ⟨fun pins s σ H D I q => h.run pins s σ H D I (k _ _ _ q)⟩

section
variable {K : PySem.W.Frag} {mg : Str → Option Value} {W : XK} {WW : WX} {m m1 : List Addr} {H H1 : Hp} {r : RD}
theorem PostE.grow {Q : VK} (p : PostE K mg W m H r Q) (g : Grow m H m1 H1) : PostE K mg W m1 H1 r Q := by
  cases r with
  | ok d h => exact fun m' H' v g' => p m' H' v (g.trans g')
  | exc c fs h => exact fun m' H' cls dx g' => p m' H' cls dx (g.trans g')
  | bad => exact p
theorem PostT.grow {Q : Bool → Hp → Prop} (p : PostT K mg W m H r Q) (g : Grow m H m1 H1) : PostT K mg W m1 H1 r Q := by
  cases r with
  | ok d h => cases d <;> first | exact p | exact fun m' H' g' => p m' H' (g.trans g')
  | exc c fs h => exact fun m' H' cls dx g' => p m' H' cls dx (g.trans g')
  | bad => exact p
theorem PostA.grow {r : RA} {Q : List V → Hp → Prop} (p : PostA K mg W m H r Q) (g : Grow m H m1 H1) : PostA K mg W m1 H1 r Q := by
  cases r with
  | ok d h => exact fun m' H' v g' => p m' H' v (g.trans g')
  | exc c fs h => exact fun m' H' cls dx g' => p m' H' cls dx (g.trans g')
  | bad => exact p
theorem PostS.grow {r : RT} {E : Ends} (p : PostS K mg WW m H r E) (g : Grow m H m1 H1) : PostS K mg WW m1 H1 r E := by
  cases r with
  | nx s h => exact fun m' H' σ' g' => p m' H' σ' (g.trans g')
  | bk s h => exact fun m' H' σ' g' => p m' H' σ' (g.trans g')
  | ct s h => exact fun m' H' σ' g' => p m' H' σ' (g.trans g')
  | rt d h => exact fun m' H' v g' => p m' H' v (g.trans g')
  | exc c fs s h => exact fun m' H' σ' cls dx g' => p m' H' σ' cls dx (g.trans g')
  | bad => exact p
theorem PostE.mono {Q Q' : VK} (p : PostE K mg W m H r Q) (k : ∀ v H', Q v H' → Q' v H') : PostE K mg W m H r Q' := by
  cases r with
  | ok d h => exact fun m' H' v g' r' rep => k _ _ (p m' H' v g' r' rep)
  | exc c fs h => exact p
  | bad => exact p
theorem PostA.mono {r : RA} {Q Q' : List V → Hp → Prop} (p : PostA K mg W m H r Q) (k : ∀ v H', Q v H' → Q' v H') : PostA K mg W m H r Q' := by
  cases r with
  | ok d h => exact fun m' H' v g' r' rep => k _ _ (p m' H' v g' r' rep)
  | exc c fs h => exact p
  | bad => exact p
/-- what a value of d in the heap h, grown out of (m, H), is wanted for -/
def Got (K : PySem.W.Frag) (mg : Str → Option Value) (m : List Addr) (H : Hp) (P : List Addr → Hp → D → Hm → Prop) : VK := fun v H' => ∃ m' d h', Grow m H m' H' ∧ R K mg m' H' h' ∧ Rep K m' H' v d ∧ P m' H' d h'
theorem PostE.bind {k : D → Hm → RD} {Q : VK} (p : PostE K mg W m H (r.bind k) Q) : PostE K mg W m H r (Got K mg m H fun m' H' d h' => PostE K mg W m' H' (k d h') Q) := by
  cases r with
  | ok d h => exact fun m' H' v g' r' rep => ⟨m', d, h, g', r', rep, PostE.grow p g'⟩
  | exc c fs h => exact p
  | bad => exact p
end
end Sh

set_option Elab.async false
set_option linter.all false
set_option maxRecDepth 100000
set_option maxHeartbeats 4000000
namespace Sh
open PySem L2 PyProof.Rows
section
variable {K : PySem.W.Frag} {mg : Str → Option Value} {W : XK} {WW : WX} {m m1 : List Addr} {H H1 : Hp} {r : RD}
/-- a value as it is -/
theorem PostE.val {Q : VK} {d : D} {h : Hm} {v : V} (p : PostE K mg W m H (.ok d h) Q) (r : R K mg m H h) (x : Rep K m H v d) : Q v H := p m H v (Grow.refl _ _) r x
/-- a new tuple -/
theorem PostE.tup {Q : VK} {ds : List D} {h : Hm} {vs : List V} (p : PostE K mg W m H (.ok (.tup ds) h) Q) (r : R K mg m H h) (x : RepL K m H vs ds) : ∀ q o, H q = none → o.dict = none → Q (.ref q) (upd H q (.frz o (.tup vs))) := fun q o hq ho =>
  p m _ _ (Grow.new hq) (r.tup hq) (.tup (.inl ⟨o, upd_same, ho⟩) (x.grow (Grow.new hq)))
/-- a new list -/
theorem PostE.lst {Q : VK} {ds : List D} {h : Hm} {vs : List V} (p : PostE K mg W m H (.ok (.ref h.length) (h ++ [.lst ds])) Q) (r : R K mg m H h) (x : RepL K m H vs ds) : ∀ q, H q = none → Q (.ref q) (upd H q (.lst vs)) := fun q hq =>
  p _ _ _ (Grow.newr hq) (r.new hq ⟨vs, upd_same, x.grow (Grow.newr hq)⟩) (.ref r.newAt)
theorem PostT.toE {Q : Bool → Hp → Prop} (p : PostT K mg W m H r Q) : PostE K mg W m H r (fun v H' => ∃ k, v = .bl k ∧ Q k H') := by
  cases r with
  | ok d h =>
    cases d with
    | bl b => exact fun m' H' v g r' rep => ⟨b, rep.bl_inv, p m' H' g r'⟩
    | _ => exact False.elim p
  | exc c fs h => exact p
  | bad => exact p
theorem PostT.bind {k : D → Hm → RD} {Q : Bool → Hp → Prop} (hk : ∀ d h, (∀ b, d ≠ .bl b) → k d h = .bad) (p : PostT K mg W m H (r.bind k) Q) :
    PostT K mg W m H r (fun b H' => ∃ m' h', Grow m H m' H' ∧ R K mg m' H' h' ∧ PostT K mg W m' H' (k (.bl b) h') Q) := by
  cases r with
  | ok d h =>
    obtain ⟨b, rfl⟩ | hn : (∃ b, d = .bl b) ∨ ∀ b, d ≠ .bl b := by cases d <;> simp
    · exact fun m' H' g r' => ⟨m', h, g, r', PostT.grow p g⟩
    · have e := hk d h hn
      have p' : PostT K mg W m H (k d h) Q := p
      rw [e] at p'
      exact False.elim p'
  | exc c fs h => exact p
  | bad => exact p
theorem PostT.bindE {k : D → Hm → RD} {Q : Bool → Hp → Prop} (p : PostT K mg W m H (r.bind k) Q) : PostE K mg W m H r (Got K mg m H fun m' H' d h' => PostT K mg W m' H' (k d h') Q) := by
  cases r with
  | ok d h => exact fun m' H' v g' r' rep => ⟨m', d, h, g', r', rep, PostT.grow p g'⟩
  | exc c fs h => exact p
  | bad => exact p
end

/-! ### names, constants -/
def eVar (i : Nat) : FE := fun s h => match s[i]? with
  | some (some d) => .ok d h
  | _ => .bad
def eC (d : D) : FE := fun _ h => .ok d h
section
variable {X : Cx} {W : WX} {e a b c : Expr} {f fa fb fc : FE} {pos : Pos}
theorem se_var (i : Nat) {x : Str} (hN : X.N[i]? = some x := by rfl) (hv : Vis X.env.scope x := by first | exact Or.inl rfl | exact Or.inr (Or.inl rfl) | exact Or.inr (Or.inr rfl)) (hd : (x == ("__debug__" : Str)) = false := by decide)
    (hcd : (x == ("__classdict__" : Str)) = false := by decide) : SE X W (.Name x pos) (eVar i) := by
  refine PE.imp (pe_var hN hv hd hcd) fun σ H Q h => ?_
  obtain ⟨m, s, h, r, rs, p⟩ := h
  unfold eVar at p
  split at p
  · rename_i d hd
    obtain ⟨v, h1, h2⟩ := rs.2 i d hd
    exact ⟨v, h1, p.val r h2⟩
  · exact False.elim p
theorem se_int {i j} : SE X W (.Constant (.int i) j pos) (eC (.int i)) := PE.imp pe_int fun σ H Q ⟨m, s, h, r, rs, p⟩ => p.val r (.int i)
theorem se_bl {i j} : SE X W (.Constant (.bool i) j pos) (eC (.bl i)) := PE.imp pe_bl fun σ H Q ⟨m, s, h, r, rs, p⟩ => p.val r (.bl i)
theorem se_non {j} : SE X W (.Constant .none j pos) (eC .non) := PE.imp pe_non fun σ H Q ⟨m, s, h, r, rs, p⟩ => p.val r .non
theorem se_str {x j} : SE X W (.Constant (.str x) j pos) (eC (.str x)) := PE.imp pe_str fun σ H Q ⟨m, s, h, r, rs, p⟩ => p.val r (.str x)
/-- an int of the module's top -/
theorem se_gint {x : Str} {i : Int} {t : Tok} (hg : Gl X x) (hm : X.mg x = some (.int i t)) (hd : (x == ("__debug__" : Str)) = false := by decide) : SE X W (.Name x pos) (eC (.int i)) :=
  PE.imp (pe_glob (v := .int i) hg hm ⟨_, rfl⟩ hd) fun σ H Q ⟨m, s, h, r, rs, p⟩ => p.val r (.int i)

/-! ### two-place operations -/
def eBin (fop : D → D → Hm → RD) (fa fb : FE) : FE := fun s h => (fa s h).bind fun x h1 => (fb s h1).bind fun y h2 => fop x y h2
/-- the operation by values bears the one by data -/
def OpS (X : Cx) (r : R2) (fop : D → D → Hm → RD) : Prop := ∀ (W : XK) (m : List Addr) (H : Hp) (h : Hm) (x y : V) (dx dy : D) (Q : VK),
  R X.K X.mg m H h → Rep X.K m H x dx → Rep X.K m H y dy → PostE X.K X.mg W m H (fop dx dy h) Q → r x y H Q
theorem bin_ok {r : R2} {fop : D → D → Hm → RD} (hop : OpS X r fop) {σ : L2.St} {H : Hp} {Q : VK} (h : tS X.K X.mg W (eBin fop fa fb) σ H Q) : tOp r (tS X.K X.mg W fa) (tS X.K X.mg W fb) σ H Q := by
  obtain ⟨m, s, h, R0, rs, p⟩ := h
  refine ⟨m, s, h, R0, rs, PostE.mono (PostE.bind p) ?_⟩
  rintro x H1 ⟨m1, dx, h1, g1, R1, rx, p1⟩
  refine ⟨m1, s, h1, R1, rs.grow g1, PostE.mono (PostE.bind p1) ?_⟩
  rintro y H2 ⟨m2, dy, h2, g2, R2, ry, p2⟩
  exact hop _ m2 H2 h2 x y dx dy Q R2 (rx.grow g2) ry p2
theorem se_op {op : Operator} {r : R2} {fop : D → D → Hm → RD} (ho : OpR X (binaryOp op) r) (hop : OpS X r fop) (ha : SE X W a fa) (hb : SE X W b fb) : SE X W (.BinOp a op b pos) (eBin fop fa fb) :=
  PE.imp (pe_op ho ha hb) fun σ H Q h => bin_ok hop h
theorem se_cmp {op : CmpOp} {r : R2} {fop : D → D → Hm → RD} (ho : OpR X (compareOp op) r) (hop : OpS X r fop) (ha : SE X W a fa) (hb : SE X W b fb) (hm : behindInMarks op b = false) : SE X W (.Compare a [op] [b] pos) (eBin fop fa fb) :=
  PE.imp (pe_cmpR ho ha hb hm) fun σ H Q h => bin_ok hop h
theorem tST_E {f : FE} {σ : L2.St} {H : Hp} {Q : Bool → Hp → Prop} (h : tST X.K X.mg W f σ H Q) : tS X.K X.mg W f σ H (fun v H' => ∃ k, v = .bl k ∧ Q k H') := by
  obtain ⟨m, s, h, R0, rs, p⟩ := h
  exact ⟨m, s, h, R0, rs, p.toE⟩
theorem st_cmp {op : CmpOp} {r : R2} {fop : D → D → Hm → RD} (ho : OpR X (compareOp op) r) (hop : OpS X r fop) (ha : SE X W a fa) (hb : SE X W b fb) (hm : behindInMarks op b = false) : ST X W (.Compare a [op] [b] pos) (eBin fop fa fb) :=
  PT.imp (pt_cmpR ho ha hb hm) fun σ H Q h => bin_ok hop (tST_E h)
/-- a value that is a truth value, as a test -/
theorem st_val (he : SE X W e f) (hw : ∀ whole, isTrue e X.env whole = (do let v ← whole; standAt e.pos; holding [v] (truthy v)) := by intro _; rfl) : ST X W e f :=
  PT.imp (pt_val he hw) fun σ H Q h => tST_E h
theorem SW.st (h : SW X W e f) : ST X W e f := PW.pt h

def IxS := 1
/-! ### and, or, not, if -/
def eAnd (fa fb : FE) : FE := fun s h => (fa s h).bind fun d h1 => match d with
  | .bl true => fb s h1
  | .bl false => .ok (.bl false) h1
  | _ => .bad
def eOr (fa fb : FE) : FE := fun s h => (fa s h).bind fun d h1 => match d with
  | .bl true => .ok (.bl true) h1
  | .bl false => fb s h1
  | _ => .bad
def eNot (fa : FE) : FE := fun s h => (fa s h).bind fun d h1 => match d with
  | .bl b => .ok (.bl (!b)) h1
  | _ => .bad
def eIf (fc fa fb : FE) : FE := fun s h => (fc s h).bind fun d h1 => match d with
  | .bl true => fa s h1
  | .bl false => fb s h1
  | _ => .bad
variable {rest : List Expr}
theorem sw_and1 (ha : ST X W a fa) : SW X W (.BoolOp .And [a] pos) fa := pw_and1 ha
theorem sw_or1 (ha : ST X W a fa) : SW X W (.BoolOp .Or [a] pos) fa := pw_or1 ha
theorem sw_and (ha : ST X W a fa) (hb : SW X W (.BoolOp .And (b :: rest) pos) fb) : SW X W (.BoolOp .And (a :: b :: rest) pos) (eAnd fa fb) := by
  refine PW.imp (pw_and ha hb) fun σ H Q h => ?_
  obtain ⟨m, s, h, R0, rs, p⟩ := h
  refine ⟨m, s, h, R0, rs, ?_⟩
  have p' := PostT.bind (fun d h hd => by cases d <;> first | rfl | exact absurd rfl (hd _)) p
  generalize fa s h = r at p'
  cases r with
  | ok d h1 =>
    cases d with
    | bl c =>
      intro m' H' g r'
      obtain ⟨m2, h2, g2, r2, p2⟩ := p' m' H' g r'
      cases c with
      | true => exact iteT ⟨m2, s, h2, r2, rs.grow g2, p2⟩
      | false => exact iteF (p2 m2 H' (Grow.refl _ _) r2)
    | _ => exact p'
  | exc c fs h1 => exact p'
  | bad => exact p'
theorem sw_or (ha : ST X W a fa) (hb : SW X W (.BoolOp .Or (b :: rest) pos) fb) : SW X W (.BoolOp .Or (a :: b :: rest) pos) (eOr fa fb) := by
  refine PW.imp (pw_or ha hb) fun σ H Q h => ?_
  obtain ⟨m, s, h, R0, rs, p⟩ := h
  refine ⟨m, s, h, R0, rs, ?_⟩
  have p' := PostT.bind (fun d h hd => by cases d <;> first | rfl | exact absurd rfl (hd _)) p
  generalize fa s h = r at p'
  cases r with
  | ok d h1 =>
    cases d with
    | bl c =>
      intro m' H' g r'
      obtain ⟨m2, h2, g2, r2, p2⟩ := p' m' H' g r'
      cases c with
      | false => exact iteF ⟨m2, s, h2, r2, rs.grow g2, p2⟩
      | true => exact iteT (p2 m2 H' (Grow.refl _ _) r2)
    | _ => exact p'
  | exc c fs h1 => exact p'
  | bad => exact p'
theorem st_not (ha : ST X W a fa) : ST X W (.UnaryOp .Not a pos) (eNot fa) := by
  refine PT.imp (pt_not ha) fun σ H Q h => ?_
  obtain ⟨m, s, h, R0, rs, p⟩ := h
  refine ⟨m, s, h, R0, rs, ?_⟩
  have p' := PostT.bind (fun d h hd => by cases d <;> first | rfl | exact absurd rfl (hd _)) p
  generalize fa s h = r at p'
  cases r with
  | ok d h1 =>
    cases d with
    | bl c =>
      intro m' H' g r'
      obtain ⟨m2, h2, g2, r2, p2⟩ := p' m' H' g r'
      exact p2 m2 H' (Grow.refl _ _) r2
    | _ => exact p'
  | exc c fs h1 => exact p'
  | bad => exact p'
theorem se_one {op} (h : SE X W a fa) : SE X W (.BoolOp op [a] pos) fa := pe_one h
theorem se_and (ha : SE X W a fa) (hb : SE X W (.BoolOp .And (b :: rest) pos) fb) : SE X W (.BoolOp .And (a :: b :: rest) pos) (eAnd fa fb) := by
  refine PE.imp (pe_and ha hb) fun σ H Q h => ?_
  obtain ⟨m, s, h, R0, rs, p⟩ := h
  refine ⟨m, s, h, R0, rs, PostE.mono (PostE.bind p) ?_⟩
  rintro x H1 ⟨m1, dx, h1, g1, R1, rx, p1⟩
  cases dx with
  | bl c =>
    refine ⟨c, rx.bl_inv, ?_⟩
    cases c with
    | true => exact iteT ⟨m1, s, h1, R1, rs.grow g1, p1⟩
    | false => exact iteF (p1.val R1 (.bl false))
  | _ => exact False.elim p1
theorem se_or (ha : SE X W a fa) (hb : SE X W (.BoolOp .Or (b :: rest) pos) fb) : SE X W (.BoolOp .Or (a :: b :: rest) pos) (eOr fa fb) := by
  refine PE.imp (pe_or ha hb) fun σ H Q h => ?_
  obtain ⟨m, s, h, R0, rs, p⟩ := h
  refine ⟨m, s, h, R0, rs, PostE.mono (PostE.bind p) ?_⟩
  rintro x H1 ⟨m1, dx, h1, g1, R1, rx, p1⟩
  cases dx with
  | bl c =>
    refine ⟨c, rx.bl_inv, ?_⟩
    cases c with
    | false => exact iteF ⟨m1, s, h1, R1, rs.grow g1, p1⟩
    | true => exact iteT (p1.val R1 (.bl true))
  | _ => exact False.elim p1
theorem se_not (ha : SE X W a fa) : SE X W (.UnaryOp .Not a pos) (eNot fa) := by
  refine PE.imp (pe_not ha) fun σ H Q h => ?_
  obtain ⟨m, s, h, R0, rs, p⟩ := h
  refine ⟨m, s, h, R0, rs, PostE.mono (PostE.bind p) ?_⟩
  rintro x H1 ⟨m1, dx, h1, g1, R1, rx, p1⟩
  cases dx with
  | bl c => exact ⟨c, rx.bl_inv, p1.val R1 (.bl _)⟩
  | _ => exact False.elim p1
theorem se_if (hc : ST X W c fc) (ha : SE X W a fa) (hb : SE X W b fb) : SE X W (.IfExp c a b pos) (eIf fc fa fb) := by
  refine PE.imp (pe_ifExp hc ha hb) fun σ H Q h => ?_
  obtain ⟨m, s, h, R0, rs, p⟩ := h
  refine ⟨m, s, h, R0, rs, ?_⟩
  unfold eIf at p
  generalize fc s h = r at p
  cases r with
  | ok d h1 =>
    cases d with
    | bl c =>
      intro m' H' g r'
      cases c with
      | true => exact iteT ⟨m', s, h1, r', rs.grow g, PostE.grow p g⟩
      | false => exact iteF ⟨m', s, h1, r', rs.grow g, PostE.grow p g⟩
    | _ => exact p
  | exc c fs h1 => exact p
  | bad => exact p
/-- a op1 b op2 c -/
def eChain (f1 f2 : D → D → Hm → RD) (fa fb fc : FE) : FE := fun s h => (fa s h).bind fun x h1 => (fb s h1).bind fun y h2 => (f1 x y h2).bind fun d h3 => match d with
  | .bl true => (fc s h3).bind fun z h4 => f2 y z h4
  | .bl false => .ok (.bl false) h3
  | _ => .bad
theorem chain_ok {r r' : R2} {f1 f2 : D → D → Hm → RD} (h1 : OpS X r f1) (h2 : OpS X r' f2) {σ : L2.St} {H : Hp} {Q : VK} (h : tS X.K X.mg W (eChain f1 f2 fa fb fc) σ H Q) :
    tChain r r' (tS X.K X.mg W fa) (tS X.K X.mg W fb) (tS X.K X.mg W fc) σ H Q := by
  obtain ⟨m, s, h, R0, rs, p⟩ := h
  refine ⟨m, s, h, R0, rs, PostE.mono (PostE.bind p) ?_⟩
  rintro x H1 ⟨m1, dx, h1', g1, R1, rx, p1⟩
  refine ⟨m1, s, h1', R1, rs.grow g1, PostE.mono (PostE.bind p1) ?_⟩
  rintro y H2 ⟨m2, dy, h2', g2, R2, ry, p2⟩
  refine h1 _ m2 H2 h2' x y dx dy _ R2 (rx.grow g2) ry (PostE.mono (PostE.bind p2) ?_)
  rintro z H3 ⟨m3, dz, h3, g3, R3, rz, p3⟩
  cases dz with
  | bl k =>
    refine ⟨k, rz.bl_inv, ?_⟩
    cases k with
    | true =>
      refine iteT ⟨m3, s, h3, R3, rs.grow (g1.trans (g2.trans g3)), PostE.mono (PostE.bind p3) ?_⟩
      rintro z H4 ⟨m4, dz, h4, g4, R4, rz, p4⟩
      exact h2 _ m4 H4 h4 y z dy dz Q R4 (ry.grow (g3.trans g4)) rz p4
    | false => exact iteF (p3.val R3 (.bl false))
  | _ => exact False.elim p3
theorem se_chain {op op' : CmpOp} {r r' : R2} {f1 f2 : D → D → Hm → RD} (ho : OpR X (compareOp op) r) (ho' : OpR X (compareOp op') r') (h1 : OpS X r f1) (h2 : OpS X r' f2) (ha : SE X W a fa) (hb : SE X W b fb) (hc : SE X W c fc)
    (hm : lastMarks [op, op'] [b, c] = false := by with_unfolding_all rfl) : SE X W (.Compare a [op, op'] [b, c] pos) (eChain f1 f2 fa fb fc) :=
  PE.imp (pe_chain ho ho' ha hb hc hm) fun σ H Q h => chain_ok h1 h2 h
theorem st_chain {op op' : CmpOp} {r r' : R2} {f1 f2 : D → D → Hm → RD} (ho : OpR X (compareOp op) r) (ho' : OpR X (compareOp op') r') (h1 : OpS X r f1) (h2 : OpS X r' f2) (ha : SE X W a fa) (hb : SE X W b fb) (hc : SE X W c fc)
    (hm : lastMarks [op, op'] [b, c] = false := by with_unfolding_all rfl) : ST X W (.Compare a [op, op'] [b, c] pos) (eChain f1 f2 fa fb fc) :=
  PT.imp (pt_chain ho ho' ha hb hc hm) fun σ H Q h => chain_ok h1 h2 (tST_E h)

/-! ### argument lists, displays -/
def evalL : List FE → FA
  | [], _, h => .ok [] h
  | f :: fs, s, h => match f s h with
    | .ok d h1 => (match evalL fs s h1 with
      | .ok ds h2 => .ok (d :: ds) h2
      | r => r)
    | .exc c x h1 => .exc c x h1
    | .bad => .bad
variable {es : List Expr} {fs : List FE}
theorem evalL_length : ∀ {fs : List FE} {s : DS} {h h' : Hm} {ds : List D}, evalL fs s h = .ok ds h' → ds.length = fs.length
  | [], s, h, h', ds, e => by
    unfold evalL at e
    cases e
    rfl
  | f :: fs, s, h, h', ds, e => by
    unfold evalL at e
    split at e
    · split at e
      · rename_i q
        cases e
        simp [evalL_length q]
      · rename_i hne
        exact absurd e (hne _ _)
    · cases e
    · cases e
theorem sa_nil : SA X W [] (evalL []) := PA.imp pa_nil fun σ H Q ⟨m, s, h, r, rs, p⟩ => p m H [] (Grow.refl _ _) r .nil
theorem sa_cons (ha : SE X W e f) (hr : SA X W es (evalL fs)) (hs : starEach (e :: es) X.env = (false, eval e X.env) :: starEach es X.env := by rfl) : SA X W (e :: es) (evalL (f :: fs)) := by
  refine PA.imp (pa_cons ha hr hs) fun σ H Q h => ?_
  obtain ⟨m, s, h, R0, rs, p⟩ := h
  refine ⟨m, s, h, R0, rs, ?_⟩
  unfold evalL at p
  generalize f s h = r at p
  cases r with
  | ok d h1 =>
    intro m1 H1 v g1 R1 rv
    refine ⟨m1, s, h1, R1, rs.grow g1, ?_⟩
    replace p := PostA.grow p g1
    dsimp only at p
    generalize evalL fs s h1 = r2 at p
    cases r2 with
    | ok ds h2 => exact fun m2 H2 vs g2 R2 rvs => p m2 H2 (v :: vs) g2 R2 (.cons (rv.grow g2) rvs)
    | exc c fs h1 => exact p
    | bad => exact p
  | exc c fs h1 => exact p
  | bad => exact p
def eArgs (g : List D → Hm → RD) (fs : List FE) : FE := fun s h => match evalL fs s h with
  | .ok ds h1 => g ds h1
  | .exc c x h1 => .exc c x h1
  | .bad => .bad
/-- what follows an argument list -/
theorem args_ok {g : List D → Hm → RD} {r : List V → Hp → VK → Prop} {σ : L2.St} {H : Hp} {Q : VK}
    (k : ∀ m1 H1 vs ds h1 s h, R X.K X.mg m1 H1 h1 → RepL X.K m1 H1 vs ds → evalL fs s h = .ok ds h1 → PostE X.K X.mg (fun c d H' => W c d σ H') m1 H1 (g ds h1) Q → r vs H1 Q)
    (h : tS X.K X.mg W (eArgs g fs) σ H Q) : tSA X.K X.mg W (evalL fs) σ H fun vs H1 => r vs H1 Q := by
  obtain ⟨m, s, h, R0, rs, p⟩ := h
  refine ⟨m, s, h, R0, rs, ?_⟩
  unfold eArgs at p
  generalize q : evalL fs s h = r at p
  cases r with
  | ok ds h1 => exact fun m1 H1 vs g1 R1 rvs => k m1 H1 vs ds h1 s h R1 rvs q (PostE.grow p g1)
  | exc c fs h1 => exact p
  | bad => exact p
theorem args_ok' {g : List D → Hm → RD} {r : List V → Hp → VK → Prop} {σ : L2.St} {H : Hp} {Q : VK} {m : List Addr} {s : DS} {h : Hm} (R0 : R X.K X.mg m H h) (rs : RS X.K m H σ s) (p : PostE X.K X.mg (fun c d H' => W c d σ H') m H (eArgs g fs s h) Q)
    (k : ∀ m1 H1 vs ds h1, Grow m H m1 H1 → R X.K X.mg m1 H1 h1 → RepL X.K m1 H1 vs ds → evalL fs s h = .ok ds h1 → PostE X.K X.mg (fun c d H' => W c d σ H') m1 H1 (g ds h1) Q → r vs H1 Q) : tSA X.K X.mg W (evalL fs) σ H fun vs H1 => r vs H1 Q := by
  refine ⟨m, s, h, R0, rs, ?_⟩
  unfold eArgs at p
  generalize q : evalL fs s h = r at p
  cases r with
  | ok ds h1 => exact fun m1 H1 vs g1 R1 rvs => k m1 H1 vs ds h1 g1 R1 rvs q (PostE.grow p g1)
  | exc c fs h1 => exact p
  | bad => exact p
def eTup (fs : List FE) : FE := eArgs (fun ds h => .ok (.tup ds) h) fs
def eLst (fs : List FE) : FE := eArgs (fun ds h => .ok (.ref h.length) (h ++ [.lst ds])) fs
/-- (a, b, ..): the new tuple's object is known -/
def tTupF (t : TA) : TE := fun σ H Q => t σ H fun xs H1 => xs.length ≤ sizeLine ∧ ∀ p o, H1 p = none → o.dict = none → Q (.ref p) (upd H1 p (.frz o (.tup xs)))
theorem pe_tupF {t : TA} {x1} (h : PA X es t) : PE X (.Tuple es x1 pos) (tTupF t) := by
  refine ⟨fun pins s σ H Q I hq => ?_⟩
  refine wpAny_Tuple_spliced (thn (h.run pos pins s σ H _ I hq) fun us s1 ⟨xs, H1, I1, r, z, q⟩ => ⟨by rw [← r.length]; exact z, ?_⟩)
  have hf : H1 s1.heap.objs.size = none := I1.hok.fresh (Nat.le_refl _)
  refine ⟨.ref s1.heap.objs.size, upd H1 s1.heap.objs.size (.frz { cls := .type "tuple", data := .seq us.toArray } (.tup xs)), I1.laid (t' := s1.toks) (fun b u e => Heap.get?_push_of_some _ e) (Nat.le_refl _) ?_, rfl, q _ { cls := .type "tuple", data := .seq us.toArray } hf rfl⟩
  exact ⟨Heap.get?_push_size _ rfl, z, us, r, ⟨_, Heap.get?_push_size _ rfl, rfl, _, rfl⟩⟩
theorem se_tup {x1} (h : SA X W es (evalL fs)) (hl : decide (fs.length ≤ 1000) = true := by rfl) : SE X W (.Tuple es x1 pos) (eTup fs) := by
  refine PE.imp (pe_tupF h) fun σ H Q h => ?_
  refine args_ok (r := fun xs H1 Q => xs.length ≤ sizeLine ∧ ∀ p o, H1 p = none → o.dict = none → Q (.ref p) (upd H1 p (.frz o (.tup xs)))) (fun m1 H1 vs ds h1 s h0 R1 rvs e p => ⟨?_, PostE.tup p R1 rvs⟩) h
  rw [rvs.length, evalL_length e, sizeLine_eq]
  exact Nat.le_trans (of_decide_eq_true hl) (by decide)
theorem se_lst (h : SA X W es (evalL fs)) (hl : decide (fs.length ≤ 1000) = true := by rfl) : SE X W (.List es pos) (eLst fs) := by
  refine PE.imp (pe_lst h) fun σ H Q h => ?_
  refine args_ok (r := fun xs H1 Q => xs.length ≤ sizeLine ∧ ∀ p, H1 p = none → Q (.ref p) (upd H1 p (.lst xs))) (fun m1 H1 vs ds h1 s h0 R1 rvs e p => ⟨?_, PostE.lst p R1 rvs⟩) h
  rw [rvs.length, evalL_length e, sizeLine_eq]
  exact Nat.le_trans (of_decide_eq_true hl) (by decide)

/-! ### calls -/
/-- a def's promise: what the function F of data gives -/
def spF (K : PySem.W.Frag) (mg : Str → Option Value) (n : Nat) (F : FF) : Sp := fun vs H Q E => vs.length = n ∧ ∃ m ds h, R K mg m H h ∧ RepL K m H vs ds ∧ PostE K mg E m H (F ds h) Q
variable {P : Program} {w : World} {k n : Nat} {fa' : Addr} {fd : FuncData} {ps : List Str} {F : FF} {x : Str} {p : Pos}
/-- the callee keeps what F tells -/
abbrev FnS (X : Cx) (k : Nat) (f : Addr) (fd : FuncData) (ps : List Str) (F : FF) : Prop := FnOk X.prog X.w X.K X.mg X.base (L2.CX X.prog X.w) k f fd ps (spF X.K X.mg ps.length F)
theorem se_call (G : FnS X k fa' fd ps F) (tk : Takes X W) (hr : Room k X.A) (hg : Gl X x) (hm : X.mg x = some (.ref fa')) (hk : PySem.W.keepIn X.K (.ref fa') = true) (hb : Binds X.K fd ps []) (ha : SA X W (e :: es) (evalL fs))
    (hl : decide (fs.length = ps.length) = true := by rfl) (hdb : (x == ("__debug__" : Str)) = false := by decide) (he : starEach (e :: es) X.env = (false, eval e X.env) :: starEach es X.env := by rfl) (hpl : (backTo pos (starEach es X.env)).any (·.1) = false := by rfl) :
    SE X W (.Call (.Name x p) (e :: es) [] pos) (eArgs F fs) := by
  refine PE.imp (pe_callS G hr hg hm hk hb (fun σ => passAt tk σ) ha hdb he hpl) fun σ H Q h => ?_
  exact args_ok (r := fun vs H1 Q => spF X.K X.mg ps.length F vs H1 Q (WE W σ)) (fun m1 H1 vs ds h1 s h0 R1 rvs ee p => ⟨by rw [rvs.length, evalL_length ee]; exact of_decide_eq_true hl, m1, ds, h1, R1, rvs, p⟩) h
/-- a built-in function or type, by values -/
def CallS (X : Cx) (r : List V → Hp → VK → Prop) (g : List D → Hm → RD) : Prop := ∀ (W : XK) (m : List Addr) (H : Hp) (h : Hm) (vs : List V) (ds : List D) (Q : VK), R X.K X.mg m H h → RepL X.K m H vs ds → PostE X.K X.mg W m H (g ds h) Q → r vs H Q
variable {id T : String} {r : List V → Hp → VK → Prop} {g : List D → Hm → RD}
theorem se_callB (hc : CallR X (.builtin id) r) (hs : CallS X r g) (hg : Gl X x) (hm : X.mg x = none) (hv : bootBuiltins x = some (.builtin id)) (ha : SA X W (e :: es) (evalL fs)) (hn : x ≠ "__name__" := by decide) (hdb : (x == ("__debug__" : Str)) = false := by decide)
    (he : starEach (e :: es) X.env = (false, eval e X.env) :: starEach es X.env := by rfl) (hpl : (backTo pos (starEach es X.env)).any (·.1) = false := by rfl) : SE X W (.Call (.Name x p) (e :: es) [] pos) (eArgs g fs) :=
  PE.imp (pe_callB hc hg hm hv ha hn hdb he hpl) fun σ H Q h => args_ok (r := r) (fun m1 H1 vs ds h1 s h0 R1 rvs ee p => hs _ m1 H1 h1 vs ds Q R1 rvs p) h
theorem se_callTy (hc : CallR X (.type T) r) (hs : CallS X r g) (hg : Gl X x) (hm : X.mg x = none) (hv : bootBuiltins x = some (.type T)) (ha : SA X W (e :: es) (evalL fs)) (hn : x ≠ "__name__" := by decide) (hdb : (x == ("__debug__" : Str)) = false := by decide)
    (he : starEach (e :: es) X.env = (false, eval e X.env) :: starEach es X.env := by rfl) (hpl : (backTo pos (starEach es X.env)).any (·.1) = false := by rfl) : SE X W (.Call (.Name x p) (e :: es) [] pos) (eArgs g fs) :=
  PE.imp (pe_callTy hc hg hm hv ha hn hdb he hpl) fun σ H Q h => args_ok (r := r) (fun m1 H1 vs ds h1 s h0 R1 rvs ee p => hs _ m1 H1 h1 vs ds Q R1 rvs p) h
end
end Sh

set_option Elab.async false
set_option linter.all false
set_option maxRecDepth 100000
set_option maxHeartbeats 4000000
namespace Sh
open PySem L2 PyProof.Rows
def big : Nat := 1000000
theorem big_line {n : Nat} (h : n ≤ big) : n ≤ sizeLine := by
  rw [sizeLine_eq]
  unfold big at h
  omega
/-! ### new tuples whose object is known -/
section
variable {X : Cx}
theorem Inv.tupF {pins : List (Addr × Obj)} {σ : L2.St} {H : Hp} {s : Shared} (I : Inv X pins σ H s) {ys : List V} {its : List Value} (r : Vals ys its) (hz : ys.length ≤ sizeLine) (t : Nat) :
    Inv X pins σ (upd H s.heap.objs.size (.frz { cls := .type "tuple", data := .seq its.toArray } (.tup ys))) { s with heap := s.heap.push { cls := .type "tuple", data := .seq its.toArray }, toks := t } :=
  I.laid (t' := t) (o := .frz { cls := .type "tuple", data := .seq its.toArray } (.tup ys)) (fun b ob q => Heap.get?_push_of_some _ q) (Nat.le_refl _) ⟨Heap.get?_push_size _ rfl, hz, its, r, IsTup.new _ _⟩
def rTupF (ys : List V) (H : Hp) (Q : VK) : Prop := ∀ p o, H p = none → o.dict = none → Q (.ref p) (upd H p (.frz o (.tup ys)))
theorem call_tuple_ofF : CallR X (.type "tuple") (fun xs H Q => ∃ p ys, xs = [.ref p] ∧ ((SqL X.K H p ys ∧ rTupF ys H Q) ∨ (SqT X.K H p ys ∧ Q (.ref p) H))) := by
  intro pins s σ H xs us Q I r h
  obtain ⟨p, ys, rfl, h⟩ := h
  obtain ⟨u, rfl, rx⟩ := vals1 r
  cases rx
  rcases h with ⟨hq, q⟩ | ⟨hq, q⟩
  · obtain ⟨its, r', pl, hz⟩ := I.list hq
    have hlen := r'.length
    refine call_tuple_list pl.isList (fun h' kp => ?_) (by simp only [List.size_toArray] <;> omega)
    have I1 : Inv X pins σ H { s with heap := h' } := I.kept (t' := s.toks) kp
    exact ⟨.ref h'.objs.size, _, Inv.tupF I1 r' hz s.toks, rfl, q _ _ (I1.hok.fresh (Nat.le_refl _)) rfl⟩
  · obtain ⟨its, r', pl, hz⟩ := I.tuple hq
    exact call_tuple_same pl ⟨.ref p, H, I, rfl, q⟩
def rCatF (K : PySem.W.Frag) : R2 := fun x y H Q => ∃ a b xs ys, x = .ref a ∧ y = .ref b ∧ SqT K H a xs ∧ SqT K H b ys ∧ xs.length + ys.length ≤ sizeLine ∧
  (xs = [] → Q (.ref b) H) ∧ (xs ≠ [] → ys = [] → Q (.ref a) H) ∧ (xs ≠ [] → ys ≠ [] → rTupF (xs ++ ys) H Q)
theorem op_catF : OpR X (binaryOp .Add) (rCatF X.K) := by
  intro pins s σ H x y v u Q I rx ry h
  obtain ⟨a, b, xs, ys, rfl, rfl, ha, hb, hz, q0, q1, q2⟩ := h
  by_cases hx : xs = []
  · exact op_catA pins s σ H _ _ v u Q I rx ry ⟨a, b, xs, ys, rfl, rfl, ha, hb, hz, q0, q1, fun z => absurd hx z⟩
  · cases rx
    cases ry
    obtain ⟨its, r1, p1, _⟩ := I.tuple ha
    obtain ⟨its2, r2, p2, _⟩ := I.tuple hb
    refine HT.cat_tup p1 p2 (fun z => hx (r1.nil_iff.mp z)) (fun z => ⟨.ref a, H, I, rfl, q1 hx (r2.nil_iff.mp z)⟩) (fun z => ?_) (by rw [← r1.length, ← r2.length]; exact hz)
    exact ⟨.ref s.heap.objs.size, _, Inv.tupF I (r1.append r2) (by rw [List.length_append]; exact hz) s.toks, rfl, q2 hx (fun w => z (r2.nil_iff.mpr w)) _ _ (I.hok.fresh (Nat.le_refl _)) rfl⟩
def rSlF (K : PySem.W.Frag) : V → Option Int → Option Int → Hp → VK → Prop := fun x lo hi H Q => ∃ a xs, x = .ref a ∧ SqT K H a xs ∧
  (HT.sIx xs.length 0 lo = 0 ∧ HT.sIx xs.length xs.length hi = xs.length → Q (.ref a) H) ∧ (¬ (HT.sIx xs.length 0 lo = 0 ∧ HT.sIx xs.length xs.length hi = xs.length) → rTupF (cutV xs lo hi) H Q)
theorem sl_tupF : SlR X (rSlF X.K) := by
  intro pins s σ H x v vl vu lo hi sl Q I rx hs pl pu h
  obtain ⟨a, xs, rfl, hx, q1, q2⟩ := h
  by_cases hw : HT.sIx xs.length 0 lo = 0 ∧ HT.sIx xs.length xs.length hi = xs.length
  · exact sl_tupA pins s σ H _ v vl vu lo hi sl Q I rx hs pl pu ⟨a, xs, rfl, hx, q1, fun z => absurd hw z⟩
  · cases rx
    obtain ⟨its, r, ht, hz⟩ := I.tuple hx
    have hlen : its.toArray.size = xs.length := by rw [List.size_toArray]; exact r.length.symm
    refine ⟨"tuple", _, PyProof.Rows.slot_tuple_getitem.lookup, ht.typeIs, ?_⟩
    refine HT.getItem_tuple_cut ht hs pl pu (by rw [hlen]; exact hw) ?_ (by rw [hlen]; exact hz)
    rw [hlen]
    exact ⟨.ref s.heap.objs.size, _, Inv.tupF I ((r.drop (HT.sIx xs.length 0 lo)).take (HT.sIx xs.length xs.length hi - HT.sIx xs.length 0 lo)) (Nat.le_trans (cutV_length xs lo hi) hz) s.toks, rfl, q2 hw _ _ (I.hok.fresh (Nat.le_refl _)) rfl⟩
/-- a call of a tuple's own method, the tuple's object known -/
def tupV (K : PySem.W.Frag) (x : V) (H : Hp) : Prop := ∃ p xs, x = .ref p ∧ TupS K H p xs
theorem tupV_is {pins : List (Addr × Obj)} {σ : L2.St} {H : Hp} {s : Shared} {x : V} {v : Value} (I : Inv X pins σ H s) (r : RelV x v) (ty : tupV X.K x H) :
    s.TypeIs v "tuple" ∧ ∀ a, v = .ref a → ∃ ob, s.heap.get? a = some ob ∧ ob.dict = none := by
  obtain ⟨p, xs, rfl, h⟩ := ty
  cases r
  obtain ⟨its, rv, pl, hz⟩ := I.tuple h.sqT
  refine ⟨pl.typeIs, fun a e => ?_⟩
  cases e
  rcases h with ⟨o, h1, h2⟩ | ⟨o, its, n, h1, h2, h3, _⟩
  · exact ⟨o, (I.hok _ _ h1).1, h2⟩
  · exact ⟨o, I.kIn _ o h1, h3⟩
def tTM (K : PySem.W.Frag) (r : V → List V → Hp → VK → Prop) (to : TE) (t : TA) : TE := fun σ H Q => to σ H fun x H1 => tupV K x H1 ∧ t σ H1 fun xs H2 => r x xs H2 Q
variable {o e : Expr} {es : List Expr} {to : TE} {t : TA} {name : Str} {apos cpos : Pos} {id : String} {r : V → List V → Hp → VK → Prop}
theorem pe_tm (pa : PlainAttrs "tuple") (slot : Slot "tuple" name id) (hty : typeOf (.builtin id) = pure (.type "method_descriptor")) (hm : MtR X id r) (ho : PE X o to) (ha : PA X (e :: es) t)
    (hbase : attributeBase o name X.env (eval o X.env) = eval o X.env := by rfl)
    (hfew : ((backTo cpos (starEach (e :: es) X.env)).all (fun x => !x.1) && (backToKw cpos (keywordEach [] X.env)).all (fun x => x.1.isSome)
      && decide ((e :: es).length + ([] : List Keyword).length + (if ([] : List Keyword).isEmpty then 0 else 1) < 30)) = true := by rfl)
    (hline : (apos.endLine == cpos.line) = true := by rfl) (hs : starEach (e :: es) X.env = (false, eval e X.env) :: starEach es X.env := by rfl) (hplain : (backTo cpos (starEach es X.env)).any (·.1) = false := by rfl) :
    PE X (.Call (.Attribute o name apos) (e :: es) [] cpos) (tTM X.K r to t) := by
  refine ⟨fun pins s σ H Q I h => ?_⟩
  refine wpAny_Call_method_late hbase hfew hline rfl (thn (ho.run pins s σ H _ I h) fun v s1 ⟨x, H1, I1, r1, ty, q1⟩ => ?_)
  obtain ⟨h1, h2⟩ := tupV_is I1 r1 ty
  refine ⟨"tuple", id, pa, slot, hty, h1, h2, ?_⟩
  have hA := ha.run cpos pins s1 σ H1 _ I1 q1
  rw [hs] at hA ⊢
  refine Calls.callWith_builtin (by show (false || (backTo cpos (starEach es X.env)).any (·.1)) = false; rw [hplain] <;> rfl) (Calls.evalArgs_plain ?_)
  exact thn hA fun us s2 ⟨vs, H2, I2, r2, q2⟩ => hm pins s2 σ H2 x vs v us Q I2 r1 r2 q2
end

/-! ### data as the library has it -/
def mapO (f : D → Option PyData) : List D → Option (List PyData)
  | [] => some []
  | d :: ds => match f d, mapO f ds with
    | some p, some ps => some (p :: ps)
    | _, _ => none
def toPy : Nat → Hm → D → Option PyData
  | _, _, .non => some .none
  | _, _, .bl b => some (.bool b)
  | _, _, .int i => some (.int i)
  | _, _, .str x => some (.str x)
  | 0, _, _ => none
  | n + 1, h, .tup ds => (mapO (toPy n h) ds).map .tuple
  | n + 1, h, .ref k => match h[k]? with
    | some (.lst ds) => (mapO (toPy n h) ds).map .list
    | some (.scr ds) => (mapO (toPy n h) ds).map .list
    | _ => none
  | n + 1, h, .scl ds => (mapO (toPy n h) ds).map .list
section
variable {K : PySem.W.Frag} {mg : Str → Option Value} {m : List Addr} {H : Hp} {h : Hm}
theorem mapO_dp {f : D → Option PyData} (k : ∀ v d p, Rep K m H v d → f d = some p → Dp K H v p) : ∀ (ds : List D) (vs : List V) (ps : List PyData), RepL K m H vs ds → mapO f ds = some ps → DpAll K H vs ps
  | [], _, ps, .nil, e => by cases e; exact .nil
  | d :: ds, _, ps, .cons r t, e => by
    unfold mapO at e
    split at e
    · rename_i p qs h1 h2
      cases e
      exact .cons (k _ _ _ r h1) (mapO_dp k ds _ _ t h2)
    · cases e
theorem ObjR.sqL {a : Addr} {ds : List D} (x : ObjR K mg m H a (.lst ds) ∨ ObjR K mg m H a (.scr ds)) : ∃ vs, SqL K H a vs ∧ RepL K m H vs ds := by
  rcases x with ⟨vs, h1, h2⟩ | ⟨vs, h1, h2⟩
  · exact ⟨vs, .inl (.inl h1), h2⟩
  · exact ⟨vs, .inl h1, h2⟩
theorem toPy_dp (r : R K mg m H h) : ∀ (n : Nat) (v : V) (d : D) (p : PyData), Rep K m H v d → toPy n h d = some p → Dp K H v p
  | n, _, .non, p, x, e => by cases x; simp only [toPy] at e; cases e; exact .non
  | n, _, .bl b, p, x, e => by cases x; simp only [toPy] at e; cases e; exact .bl b
  | n, _, .int b, p, x, e => by cases x; simp only [toPy] at e; cases e; exact .int b
  | n, _, .str b, p, x, e => by cases x; simp only [toPy] at e; cases e; exact .str b
  | 0, _, .tup ds, p, x, e => by simp only [toPy] at e; cases e
  | 0, _, .ref k, p, x, e => by simp only [toPy] at e; cases e
  | 0, _, .scl k, p, x, e => by simp only [toPy] at e; cases e
  | n + 1, _, .scl ds, p, x, e => by
    simp only [toPy] at e
    obtain ⟨ps, h1, rfl⟩ := Option.map_eq_some_iff.mp e
    obtain ⟨a, vs, rfl, h2, h3⟩ := x.scl_inv
    exact .lst h2.sqL (mapO_dp (fun v d p => toPy_dp r n v d p) ds vs ps h3 h1)
  | n + 1, _, .tup ds, p, x, e => by
    simp only [toPy] at e
    obtain ⟨ps, h1, rfl⟩ := Option.map_eq_some_iff.mp e
    obtain ⟨a, vs, rfl, h2, h3⟩ := x.tup_inv
    exact .tup h2.sqT (mapO_dp (fun v d p => toPy_dp r n v d p) ds vs ps h3 h1)
  | n + 1, _, .ref k, p, x, e => by
    simp only [toPy] at e
    obtain ⟨a, rfl, hm⟩ := x.ref_inv
    split at e
    · rename_i ds hk
      obtain ⟨ps, h1, rfl⟩ := Option.map_eq_some_iff.mp e
      obtain ⟨vs, q1, q2⟩ := ObjR.sqL (.inl (r.ob _ _ _ hm hk))
      exact .lst q1 (mapO_dp (fun v d p => toPy_dp r n v d p) ds vs ps q2 h1)
    · rename_i ds hk
      obtain ⟨ps, h1, rfl⟩ := Option.map_eq_some_iff.mp e
      obtain ⟨vs, q1, q2⟩ := ObjR.sqL (.inr (r.ob _ _ _ hm hk))
      exact .lst q1 (mapO_dp (fun v d p => toPy_dp r n v d p) ds vs ps q2 h1)
    · cases e
end
/-- the items of a list or tuple -/
def items (h : Hm) : D → Option (List D)
  | .tup ds => some ds
  | .ref k => match h[k]? with
    | some (.lst ds) => some ds
    | some (.scr ds) => some ds
    | _ => none
  | .scl ds => some ds
  | _ => none
section
variable {K : PySem.W.Frag} {mg : Str → Option Value} {m : List Addr} {H : Hp} {h : Hm}
theorem items_sq (r : R K mg m H h) {v : V} {d : D} {ds : List D} (x : Rep K m H v d) (e : items h d = some ds) : ∃ a vs, v = .ref a ∧ (SqL K H a vs ∨ SqT K H a vs) ∧ RepL K m H vs ds := by
  cases d with
  | tup es =>
    cases e
    obtain ⟨a, vs, rfl, h2, h3⟩ := x.tup_inv
    exact ⟨a, vs, rfl, .inr h2.sqT, h3⟩
  | scl es =>
    cases e
    obtain ⟨a, vs, rfl, h2, h3⟩ := x.scl_inv
    exact ⟨a, vs, rfl, .inl h2.sqL, h3⟩
  | ref k =>
    obtain ⟨a, rfl, hm⟩ := x.ref_inv
    unfold items at e
    simp only at e
    split at e
    · rename_i es hk
      cases e
      obtain ⟨vs, q1, q2⟩ := ObjR.sqL (.inl (r.ob _ _ _ hm hk))
      exact ⟨a, vs, rfl, .inl q1, q2⟩
    · rename_i es hk
      cases e
      obtain ⟨vs, q1, q2⟩ := ObjR.sqL (.inr (r.ob _ _ _ hm hk))
      exact ⟨a, vs, rfl, .inl q1, q2⟩
    · cases e
  | _ => cases e
end

/-! ### + - * // % ** -/
def dAdd (x y : D) (h : Hm) : RD := match x, y with
  | .int i, .int j => .ok (.int (i + j)) h
  | .tup a, .tup b => if a.length + b.length ≤ big then .ok (.tup (a ++ b)) h else .bad
  | .ref a, .ref b => match h[a]?, h[b]? with
    | some (.lst xs), some (.lst ys) => if xs.length + ys.length ≤ big then .ok (.ref h.length) (h ++ [.lst (xs ++ ys)]) else .bad
    | _, _ => .bad
  | .str a, .str b => if a.length + b.length ≤ big then .ok (.str (a ++ b)) h else .bad
  | _, _ => .bad
def rAdd4 (K : PySem.W.Frag) : R2 := fun x y H Q => (rI0 fun i j => .int (i + j)) x y H Q ∨ rCatF K x y H Q ∨ rCat x y H Q ∨ (∃ i j, x = .str i ∧ y = .str j ∧ i.length + j.length ≤ sizeLine ∧ Q (.str (i ++ j)) H)
section
variable {X : Cx}
theorem op_add4 : OpR X (binaryOp .Add) (rAdd4 X.K) := op_add.or (op_catF.or (op_cat.or op_add_str))
theorem os_add : OpS X (rAdd4 X.K) dAdd := by
  intro W m H h x y dx dy Q r rx ry p
  unfold dAdd at p
  split at p
  · cases rx; cases ry
    exact .inl ⟨_, _, rfl, rfl, p.val r (.int _)⟩
  · rename_i a b
    split at p
    · rename_i hz
      obtain ⟨p1, vs, rfl, t1, l1⟩ := rx.tup_inv
      obtain ⟨p2, ws, rfl, t2, l2⟩ := ry.tup_inv
      have e1 := l1.length
      have e2 := l2.length
      refine .inr (.inl ⟨p1, p2, vs, ws, rfl, rfl, t1.sqT, t2.sqT, big_line (by omega), fun z => ?_, fun _ z => ?_, fun _ _ q o hq ho => PostE.tup p r (l1.app l2) q o hq ho⟩)
      · subst z
        cases l1
        exact p.val r ry
      · subst z
        cases l2
        rw [List.append_nil] at p
        exact p.val r rx
    · exact False.elim p
  · split at p
    · rename_i xs ys h1 h2
      split at p
      · rename_i hz
        obtain ⟨p1, rfl, m1⟩ := rx.ref_inv
        obtain ⟨p2, rfl, m2⟩ := ry.ref_inv
        obtain ⟨vs, q1, l1⟩ := r.ob _ _ _ m1 h1
        obtain ⟨ws, q2, l2⟩ := r.ob _ _ _ m2 h2
        have e1 := l1.length
        have e2 := l2.length
        exact .inr (.inr (.inl ⟨p1, p2, vs, ws, rfl, rfl, q1, q2, big_line (by omega), PostE.lst p r (l1.app l2)⟩))
      · exact False.elim p
    · exact False.elim p
  · split at p
    · rename_i hz
      cases rx; cases ry
      exact .inr (.inr (.inr ⟨_, _, rfl, rfl, big_line hz, p.val r (.str _)⟩))
    · exact False.elim p
  · exact False.elim p
def dInt2 (c : Int → Int → Bool) (g : Int → Int → Int) (x y : D) (h : Hm) : RD := match x, y with
  | .int i, .int j => if c i j = true then .ok (.int (g i j)) h else .bad
  | _, _ => .bad
theorem os_int2 {c : Int → Int → Bool} {g : Int → Int → Int} {C : Int → Int → Prop} (k : ∀ i j, c i j = true → C i j) : OpS X (rI C fun i j => .int (g i j)) (dInt2 c g) := by
  intro W m H h x y dx dy Q r rx ry p
  unfold dInt2 at p
  split at p
  · split at p
    · rename_i hc
      cases rx; cases ry
      exact ⟨_, _, rfl, rfl, k _ _ hc, p.val r (.int _)⟩
    · exact False.elim p
  · exact False.elim p
def dInt0 (g : Int → Int → Int) (x y : D) (h : Hm) : RD := match x, y with
  | .int i, .int j => .ok (.int (g i j)) h
  | _, _ => .bad
theorem os_int0 {g : Int → Int → Int} : OpS X (rI0 fun i j => .int (g i j)) (dInt0 g) := by
  intro W m H h x y dx dy Q r rx ry p
  unfold dInt0 at p
  split at p
  · cases rx; cases ry
    exact ⟨_, _, rfl, rfl, p.val r (.int _)⟩
  · exact False.elim p
def dCmp (g : Int → Int → Bool) (x y : D) (h : Hm) : RD := match x, y with
  | .int i, .int j => .ok (.bl (g i j)) h
  | _, _ => .bad
theorem os_cmp {g : Int → Int → Bool} : OpS X (rI0 fun i j => .bl (g i j)) (dCmp g) := by
  intro W m H h x y dx dy Q r rx ry p
  unfold dCmp at p
  split at p
  · cases rx; cases ry
    exact ⟨_, _, rfl, rfl, p.val r (.bl _)⟩
  · exact False.elim p
/-- a product, one factor within a word -/
def dSub := dInt0 fun i j => i - j
def dMod := dInt2 (fun _ j => decide (0 < j)) fun i j => i % j
def dDiv := dInt2 (fun _ j => decide (0 < j ∧ j < 2 ^ 200)) fun i j => i / j
def dPow := dInt2 (fun i j => decide (0 ≤ j ∧ j ≤ 1000000 ∧ i.natAbs < 2 ^ 64)) fun i j => i ^ j.toNat
def cM (i j : Int) : Bool := decide ((-(2 ^ 64) < i ∧ i < 2 ^ 64) ∨ (-(2 ^ 64) < j ∧ j < 2 ^ 64))
theorem os_sub : OpS X (rI0 fun i j => .int (i - j)) dSub := os_int0
theorem os_mod : OpS X (rI (fun _ j => 0 < j) fun i j => .int (i % j)) dMod := os_int2 fun _ _ h => of_decide_eq_true h
theorem os_div : OpS X (rI CDivW fun i j => .int (i / j)) dDiv := os_int2 fun i j h => by
  have q := of_decide_eq_true h
  exact wide_div (b := 200) q.1 (by have := q.2; omega) (by decide) (by decide)
theorem os_pow : OpS X (rI CPow fun i j => .int (i ^ j.toNat)) dPow := os_int2 fun i j h => by
  have q : 0 ≤ j ∧ j ≤ 1000000 ∧ i.natAbs < 2 ^ 64 := of_decide_eq_true h
  exact q
/-- * : ints, a list times an int -/
def dMul (x y : D) (h : Hm) : RD := match x, y with
  | .int i, .int j => if cM i j = true then .ok (.int (i * j)) h else .bad
  | .ref a, .int k => match h[a]? with
    | some (.lst xs) => if -(2 ^ 63) ≤ k ∧ k < 2 ^ 63 ∧ xs.length * k.toNat ≤ big then .ok (.ref h.length) (h ++ [.lst (List.replicate k.toNat xs).flatten]) else .bad
    | _ => .bad
  | _, _ => .bad
theorem RepL.flat {K : PySem.W.Frag} {m : List Addr} {H : Hp} {vs : List V} {ds : List D} (r : RepL K m H vs ds) : ∀ n : Nat, RepL K m H (List.replicate n vs).flatten (List.replicate n ds).flatten
  | 0 => .nil
  | n + 1 => by
    rw [List.replicate_succ, List.replicate_succ, List.flatten_cons, List.flatten_cons]
    exact r.app (RepL.flat r n)
theorem op_mul2 : OpR X (binaryOp .Mult) (fun x y H Q => (rI CMul fun i j => .int (i * j)) x y H Q ∨ rRep x y H Q) := op_mul.or op_rep
theorem os_mul : OpS X (fun x y H Q => (rI CMul fun i j => .int (i * j)) x y H Q ∨ rRep x y H Q) dMul := by
  intro W m H h x y dx dy Q r rx ry p
  unfold dMul at p
  split at p
  · split at p
    · rename_i hc
      cases rx; cases ry
      rename_i i j
      have q : (-(2 ^ 64) < i ∧ i < 2 ^ 64) ∨ (-(2 ^ 64) < j ∧ j < 2 ^ 64) := of_decide_eq_true hc
      exact .inl ⟨i, j, rfl, rfl, q, p.val r (.int _)⟩
    · exact False.elim p
  · split at p
    · rename_i xs h1
      split at p
      · rename_i hz
        obtain ⟨p1, rfl, m1⟩ := rx.ref_inv
        cases ry
        obtain ⟨vs, q1, l1⟩ := r.ob _ _ _ m1 h1
        have e1 := l1.length
        exact .inr ⟨p1, _, vs, rfl, rfl, q1, hz.1, hz.2.1, big_line (by rw [e1]; exact hz.2.2), PostE.lst p r (l1.flat _)⟩
      · exact False.elim p
    · exact False.elim p
  · exact False.elim p
end

/-! ### == != is in -/
def eqSc : D → D → Option Bool
  | .non, .non => some true
  | .non, .int _ => some false | .int _, .non => some false | .non, .bl _ => some false | .bl _, .non => some false | .non, .str _ => some false | .str _, .non => some false
  | .int i, .int j => some (decide (i = j)) | .bl i, .bl j => some (decide (i = j)) | .str i, .str j => some (decide (i = j))
  | .int _, .str _ => some false | .str _, .int _ => some false | .bl _, .str _ => some false | .str _, .bl _ => some false
  | _, _ => none
/-- == of data -/
def eqB (h : Hm) (x y : D) : Option Bool := match eqSc x y with
  | some b => some b
  | none => match toPy 20 h x, toPy 20 h y with
    | some a, some b => if SeqAt.shaped a = true ∧ SeqAt.shaped b = true then some (PyData.eqv a b) else none
    | _, _ => none
def dEq (x y : D) (h : Hm) : RD := match eqB h x y with
  | some b => .ok (.bl b) h
  | none => .bad
def dNe (x y : D) (h : Hm) : RD := match eqB h x y with
  | some b => .ok (.bl (!b)) h
  | none => .bad
section
variable {X : Cx}
theorem eqSc_ok {K : PySem.W.Frag} {m : List Addr} {H : Hp} {x y : V} {dx dy : D} {b : Bool} (rx : Rep K m H x dx) (ry : Rep K m H y dy) (e : eqSc dx dy = some b) : scal x y = true ∧ decide (x = y) = b := by
  cases dx <;> cases dy <;> first
    | (simp [eqSc] at e; done)
    | (cases rx; cases ry; simp [eqSc] at e; subst e; refine ⟨rfl, ?_⟩; simp)
theorem op_eq2 (hr : X.A.units + 64 < cLine) : OpR X (compareOp .Eq) (fun x y H Q => rEq x y H Q ∨ rEqD X.K x y H Q) := op_eq.or (op_eqD hr)
theorem op_ne2 (hr : X.A.units + 64 < cLine) : OpR X (compareOp .NotEq) (fun x y H Q => rNe x y H Q ∨ rNeD X.K x y H Q) := op_ne.or (op_neD hr)
theorem eqB_ok {K : PySem.W.Frag} {mg : Str → Option Value} {m : List Addr} {H : Hp} {h : Hm} {x y : V} {dx dy : D} {b : Bool} (r : R K mg m H h) (rx : Rep K m H x dx) (ry : Rep K m H y dy) (e : eqB h dx dy = some b) :
    (scal x y = true ∧ decide (x = y) = b) ∨ ∃ d e, Dp K H x d ∧ Dp K H y e ∧ SeqAt.shaped d = true ∧ SeqAt.shaped e = true ∧ PyData.eqv d e = b := by
  unfold eqB at e
  split at e
  · rename_i b' h1
    cases e
    exact .inl (eqSc_ok rx ry h1)
  · split at e
    · rename_i a c h1 h2
      split at e
      · rename_i hs
        cases e
        exact .inr ⟨a, c, toPy_dp r _ _ _ _ rx h1, toPy_dp r _ _ _ _ ry h2, hs.1, hs.2, rfl⟩
      · cases e
    · cases e
theorem os_eq : OpS X (fun x y H Q => rEq x y H Q ∨ rEqD X.K x y H Q) dEq := by
  intro W m H h x y dx dy Q r rx ry p
  unfold dEq at p
  split at p
  · rename_i b e
    rcases eqB_ok r rx ry e with ⟨h1, h2⟩ | ⟨d, c, h1, h2, h3, h4, h5⟩
    · exact .inl ⟨h1, by rw [h2]; exact p.val r (.bl _)⟩
    · exact .inr ⟨d, c, h1, h2, h3, h4, by rw [h5]; exact p.val r (.bl _)⟩
  · exact False.elim p
theorem os_ne : OpS X (fun x y H Q => rNe x y H Q ∨ rNeD X.K x y H Q) dNe := by
  intro W m H h x y dx dy Q r rx ry p
  unfold dNe at p
  split at p
  · rename_i b e
    rcases eqB_ok r rx ry e with ⟨h1, h2⟩ | ⟨d, c, h1, h2, h3, h4, h5⟩
    · exact .inl ⟨h1, by rw [h2]; exact p.val r (.bl _)⟩
    · exact .inr ⟨d, c, h1, h2, h3, h4, by rw [h5]; exact p.val r (.bl _)⟩
  · exact False.elim p
/-- is None, is True, is False -/
def dIs (x y : D) (h : Hm) : RD := match y with
  | .non => .ok (.bl (decide (x = .non))) h
  | .bl b => .ok (.bl (decide (x = .bl b))) h
  | _ => .bad
def dIsNot (x y : D) (h : Hm) : RD := match y with
  | .non => .ok (.bl (!decide (x = .non))) h
  | .bl b => .ok (.bl (!decide (x = .bl b))) h
  | _ => .bad
def rIs3 : R2 := fun x y H Q => (y = .non ∨ ∃ b, y = .bl b) ∧ Q (.bl (decide (x = y))) H
def rIsNot3 : R2 := fun x y H Q => (y = .non ∨ ∃ b, y = .bl b) ∧ Q (.bl (!decide (x = y))) H
theorem plain_bool {x : V} {v : Value} (r : RelV x v) (b : Bool) : plainIs v (.bool b) = true := by
  cases x <;> first | (obtain ⟨t, rfl⟩ := r; rfl) | (cases r; rfl)
theorem relV_bl {x : V} {v : Value} (r : RelV x v) (b : Bool) : v = .bool b ↔ x = .bl b := by
  cases x <;> first | (obtain ⟨t, rfl⟩ := r; simp) | (cases r; simp)
theorem op_is3 : OpR X (compareOp .Is) rIs3 := by
  rintro pins s σ H x y v u Q I rx ry ⟨rfl | ⟨b, rfl⟩, q⟩
  · exact op_isN pins s σ H x _ v u Q I rx ry ⟨rfl, q⟩
  · cases (show u = Value.bool b from ry)
    by_cases e : v = .bool b
    · subst e
      exact wpAny_is_self rfl ⟨.bl true, H, I, rfl, by rw [decide_eq_true ((relV_bl rx b).mp rfl)] at q; exact q⟩
    · exact wpAny_is_other (plain_bool rx b) e ⟨.bl false, H, I, rfl, by rw [decide_eq_false (fun z => e ((relV_bl rx b).mpr z))] at q; exact q⟩
theorem op_isNot3 : OpR X (compareOp .IsNot) rIsNot3 := by
  rintro pins s σ H x y v u Q I rx ry ⟨rfl | ⟨b, rfl⟩, q⟩
  · exact op_notN pins s σ H x _ v u Q I rx ry ⟨rfl, q⟩
  · cases (show u = Value.bool b from ry)
    by_cases e : v = .bool b
    · subst e
      exact wpAny_isNot_self rfl ⟨.bl false, H, I, rfl, by rw [decide_eq_true ((relV_bl rx b).mp rfl)] at q; exact q⟩
    · exact wpAny_isNot_other (plain_bool rx b) e ⟨.bl true, H, I, rfl, by rw [decide_eq_false (fun z => e ((relV_bl rx b).mpr z))] at q; exact q⟩
theorem rep_non {K : PySem.W.Frag} {m : List Addr} {H : Hp} {x : V} {d : D} (r : Rep K m H x d) : decide (x = .non) = decide (d = .non) := by cases r <;> simp
theorem rep_bl {K : PySem.W.Frag} {m : List Addr} {H : Hp} {x : V} {d : D} (r : Rep K m H x d) (b : Bool) : decide (x = .bl b) = decide (d = .bl b) := by cases r <;> simp
theorem os_is : OpS X rIs3 dIs := by
  intro W m H h x y dx dy Q r rx ry p
  unfold dIs at p
  split at p
  · cases ry
    exact ⟨.inl rfl, by rw [rep_non rx]; exact p.val r (.bl _)⟩
  · cases ry
    exact ⟨.inr ⟨_, rfl⟩, by rw [rep_bl rx]; exact p.val r (.bl _)⟩
  · exact False.elim p
theorem os_isNot : OpS X rIsNot3 dIsNot := by
  intro W m H h x y dx dy Q r rx ry p
  unfold dIsNot at p
  split at p
  · cases ry
    exact ⟨.inl rfl, by rw [rep_non rx]; exact p.val r (.bl _)⟩
  · cases ry
    exact ⟨.inr ⟨_, rfl⟩, by rw [rep_bl rx]; exact p.val r (.bl _)⟩
  · exact False.elim p
/-- x in y: flat things in a tuple, data in a list -/
def flatD : D → Bool
  | .non => true | .bl _ => true | .int _ => true | .str _ => true
  | _ => false
def eqF : D → D → Bool
  | .non, .non => true
  | .bl a, .bl b => a == b
  | .bl a, .int b => (if a then 1 else 0) == b
  | .int a, .bl b => a == (if b then 1 else 0)
  | .int a, .int b => a == b
  | .str a, .str b => a == b
  | _, _ => false
def inB (h : Hm) (x y : D) : Option Bool := match y with
  | .tup ys => if flatD x = true ∧ ys.all flatD = true then some (ys.any fun z => eqF z x) else none
  | _ => match toPy 20 h x, toPy 20 h y with
    | some a, some (.list b) => if SeqAt.shaped a = true ∧ SeqAt.shaped (.list b) = true then some (b.any fun z => PyData.eqv z a) else none
    | _, _ => none
def dIn (x y : D) (h : Hm) : RD := match inB h x y with
  | some b => .ok (.bl b) h
  | none => .bad
def dNotIn (x y : D) (h : Hm) : RD := match inB h x y with
  | some b => .ok (.bl (!b)) h
  | none => .bad
theorem flat_rep {K : PySem.W.Frag} {m : List Addr} {H : Hp} {x : V} {d : D} (r : Rep K m H x d) (f : flatD d = true) : flatV x = true := by cases r <;> first | rfl | cases f
theorem flat_repL {K : PySem.W.Frag} {m : List Addr} {H : Hp} : ∀ {vs : List V} {ds : List D}, RepL K m H vs ds → ds.all flatD = true → vs.all flatV = true
  | _, _, .nil, _ => rfl
  | _, _, .cons r t, f => by
    rw [List.all_cons, Bool.and_eq_true] at f ⊢
    exact ⟨flat_rep r f.1, flat_repL t f.2⟩
theorem eqF_rep {K : PySem.W.Frag} {m : List Addr} {H : Hp} {x y : V} {d e : D} (r : Rep K m H x d) (q : Rep K m H y e) : eqV x y = eqF d e := by
  cases r <;> cases q <;> rfl
theorem any_rep {K : PySem.W.Frag} {m : List Addr} {H : Hp} {x : V} {d : D} (r : Rep K m H x d) : ∀ {vs : List V} {ds : List D}, RepL K m H vs ds → inV x vs = ds.any fun z => eqF z d
  | _, _, .nil => rfl
  | _, _, .cons q t => by
    unfold inV
    rw [List.any_cons, List.any_cons, eqF_rep q r]
    have := any_rep r t
    unfold inV at this
    rw [this]
theorem op_in2 (hu : X.A.units + 65 < cLine) : OpR X (compareOp .In) (fun x y H Q => rIn X.K false x y H Q ∨ rInD X.K x y H Q) := op_in_seq.or (op_inD hu)
theorem op_notIn2 (hu : X.A.units + 65 < cLine) : OpR X (compareOp .NotIn) (fun x y H Q => rIn X.K true x y H Q ∨ rNotInD X.K x y H Q) := op_notIn_seq.or (op_notInD hu)
theorem inB_ok {mg : Str → Option Value} {K : PySem.W.Frag} {m : List Addr} {H : Hp} {h : Hm} {x y : V} {dx dy : D} {b : Bool} (r : R K mg m H h) (rx : Rep K m H x dx) (ry : Rep K m H y dy) (e : inB h dx dy = some b) :
    (∃ p xs, y = .ref p ∧ (SqL K H p xs ∨ SqT K H p xs) ∧ flatV x = true ∧ xs.all flatV = true ∧ inV x xs = b) ∨
      ∃ d ds, Dp K H x d ∧ Dp K H y (.list ds) ∧ SeqAt.shaped d = true ∧ SeqAt.shaped (.list ds) = true ∧ (ds.any fun z => PyData.eqv z d) = b := by
  unfold inB at e
  split at e
  · split at e
    · rename_i hf
      cases e
      obtain ⟨p, vs, rfl, t1, l1⟩ := ry.tup_inv
      exact .inl ⟨p, vs, rfl, .inr t1.sqT, flat_rep rx hf.1, flat_repL l1 hf.2, any_rep rx l1⟩
    · cases e
  · split at e
    · rename_i a c h1 h2
      split at e
      · rename_i hs
        cases e
        exact .inr ⟨a, c, toPy_dp r _ _ _ _ rx h1, toPy_dp r _ _ _ _ ry h2, hs.1, hs.2, rfl⟩
      · cases e
    · cases e
theorem os_in : OpS X (fun x y H Q => rIn X.K false x y H Q ∨ rInD X.K x y H Q) dIn := by
  intro W m H h x y dx dy Q r rx ry p
  unfold dIn at p
  split at p
  · rename_i b e
    rcases inB_ok r rx ry e with ⟨q, vs, h1, h2, h3, h4, h5⟩ | ⟨d, c, h1, h2, h3, h4, h5⟩
    · exact .inl ⟨q, vs, h1, h2, h3, h4, by rw [h5]; exact p.val r (.bl _)⟩
    · exact .inr ⟨d, c, h1, h2, h3, h4, by rw [h5]; exact p.val r (.bl _)⟩
  · exact False.elim p
theorem os_notIn : OpS X (fun x y H Q => rIn X.K true x y H Q ∨ rNotInD X.K x y H Q) dNotIn := by
  intro W m H h x y dx dy Q r rx ry p
  unfold dNotIn at p
  split at p
  · rename_i b e
    rcases inB_ok r rx ry e with ⟨q, vs, h1, h2, h3, h4, h5⟩ | ⟨d, c, h1, h2, h3, h4, h5⟩
    · exact .inl ⟨q, vs, h1, h2, h3, h4, by rw [h5]; exact p.val r (.bl _)⟩
    · exact .inr ⟨d, c, h1, h2, h3, h4, by rw [h5]; exact p.val r (.bl _)⟩
  · exact False.elim p
end
end Sh

set_option Elab.async false
set_option linter.all false
set_option maxRecDepth 100000
set_option maxHeartbeats 4000000
namespace Sh
open PySem L2 PyProof.Rows
/-! ### subscripts, slices -/
theorem atI_rep {K : PySem.W.Frag} {m : List Addr} {H : Hp} {vs : List V} {ds : List D} {i : Int} {d : D} (r : RepL K m H vs ds) (e : atI ds i = some d) : ∃ v, atI vs i = some v ∧ Rep K m H v d := by
  unfold atI at e ⊢
  rw [r.length]
  cases q : ixN ds.length i with
  | none => rw [q] at e; cases e
  | some j =>
    rw [q] at e
    exact r.get e
def dIx (x y : D) (h : Hm) : RD := match y with
  | .int i => match items h x with
    | some ds => match atI ds i with
      | some d => .ok d h
      | none => .bad
    | none => .bad
  | _ => .bad
section
variable {X : Cx} {W : WX} {e a b c o : Expr} {f fa fb fc fo : FE} {pos apos cpos : Pos} {es : List Expr} {fs : List FE}
theorem os_ix : OpS X (fun x y H Q => rIxL X.K x y H Q ∨ rIxT X.K x y H Q) dIx := by
  intro W m H h x y dx dy Q r rx ry p
  unfold dIx at p
  split at p
  · split at p
    · rename_i ds hi
      split at p
      · rename_i d hd
        cases ry
        obtain ⟨q, vs, rfl, h1, l1⟩ := items_sq r rx hi
        obtain ⟨v, h2, h3⟩ := atI_rep l1 hd
        rcases h1 with h1 | h1
        · exact .inl ⟨q, vs, _, v, rfl, rfl, h1, h2, p.val r h3⟩
        · exact .inr ⟨q, vs, _, v, rfl, rfl, h1, h2, p.val r h3⟩
      · exact False.elim p
    · exact False.elim p
  · exact False.elim p
theorem ix_two : IxR X (fun x y H Q => rIxL X.K x y H Q ∨ rIxT X.K x y H Q) := ix_list.or ix_tup
theorem se_ix (ha : SE X W a fa) (hb : SE X W b fb) (hs : PlainIx b := by exact fun _ _ => rfl) : SE X W (.Subscript a b pos) (eBin dIx fa fb) :=
  PE.imp (pe_ix ix_two ha hb hs) fun σ H Q h => bin_ok os_ix h
def cutD (xs : List D) (lo hi : Option Int) : List D := (xs.drop (HT.sIx xs.length 0 lo)).take (HT.sIx xs.length xs.length hi - HT.sIx xs.length 0 lo)
theorem cut_rep {K : PySem.W.Frag} {m : List Addr} {H : Hp} {vs : List V} {ds : List D} (r : RepL K m H vs ds) (lo hi : Option Int) : RepL K m H (cutV vs lo hi) (cutD ds lo hi) := by
  unfold cutV cutD
  rw [r.length]
  exact (r.drop _).take _
def dSl (x : D) (lo hi : Option Int) (h : Hm) : RD := match x with
  | .tup ds => .ok (.tup (cutD ds lo hi)) h
  | .ref k => match h[k]? with
    | some (.lst ds) => .ok (.ref h.length) (h ++ [.lst (cutD ds lo hi)])
    | some (.scr ds) => .ok (.ref h.length) (h ++ [.lst (cutD ds lo hi)])
    | _ => .bad
  | _ => .bad
theorem sl_two : SlR X (fun x lo hi H Q => rSlL X.K x lo hi H Q ∨ rSlF X.K x lo hi H Q) := sl_list.or sl_tupF
def ePart (lo : Option FE) (s : DS) (h : Hm) (k : Option Int → Hm → RD) : RD := match lo with
  | none => k none h
  | some f => (f s h).bind fun d h1 => match d with
    | .int i => k (some i) h1
    | _ => .bad
def eSl (fa : FE) (lo hi : Option FE) : FE := fun s h => (fa s h).bind fun x h1 => ePart lo s h1 fun l h2 => ePart hi s h2 fun u h3 => dSl x l u h3
inductive SO (X : Cx) (W : WX) : Option Expr → Option FE → Prop
  | no : SO X W none none
  | yes {e : Expr} {f : FE} (h : SE X W e f) : SO X W (some e) (some f)
def tPO (K : PySem.W.Frag) (mg : Str → Option Value) (W : WX) (lo : Option FE) : TO := fun σ H Q => ∃ m s h, R K mg m H h ∧ RS K m H σ s ∧
  (match lo with
    | none => Q none H
    | some f => PostE K mg (fun c d H' => W c d σ H') m H (f s h) (fun v H' => ∃ i, v = .int i ∧ Q (some i) H'))
theorem po_of {lo : Option Expr} {fl : Option FE} (h : SO X W lo fl) : PO X lo (tPO X.K X.mg W fl) := by
  cases h with
  | no => exact ⟨fun pins s σ H Q I ⟨m, s', h, R0, rs, q⟩ => po_none.run pins s σ H Q I q⟩
  | yes h => exact ⟨fun pins s σ H Q I ⟨m, s', hh, R0, rs, q⟩ => (po_some h).run pins s σ H Q I ⟨m, s', hh, R0, rs, q⟩⟩
theorem se_sl {lo hi : Option Expr} {fl fu : Option FE} {p2 : Pos} (ha : SE X W a fa) (hl : SO X W lo fl) (hu : SO X W hi fu) : SE X W (.Subscript a (.Slice lo hi none p2) pos) (eSl fa fl fu) := by
  refine PE.imp (pe_slice sl_two ha (po_of hl) (po_of hu)) fun σ H Q h => ?_
  obtain ⟨m, s, h, R0, rs, p⟩ := h
  refine ⟨m, s, h, R0, rs, PostE.mono (PostE.bind p) ?_⟩
  rintro x H1 ⟨m1, dx, h1, g1, R1, rx, p1⟩
  -- what stands at the end
  have fin : ∀ (l u : Option Int) (m3 : List Addr) (H3 : Hp) (h3 : Hm), Grow m1 H1 m3 H3 → R X.K X.mg m3 H3 h3 → PostE X.K X.mg (fun c d H' => W c d σ H') m3 H3 (dSl dx l u h3) Q → (rSlL X.K x l u H3 Q ∨ rSlF X.K x l u H3 Q) := by
    intro l u m3 H3 h3 g R3 p3
    unfold dSl at p3
    split at p3
    · obtain ⟨q, vs, rfl, t1, l1⟩ := (rx.grow g).tup_inv
      refine .inr ⟨q, vs, rfl, t1.sqT, fun z => ?_, fun _ q' o hq ho => PostE.tup p3 R3 (cut_rep l1 l u) q' o hq ho⟩
      have e : cutV vs l u = vs := by
        unfold cutV
        rw [z.1, z.2]
        simp
      have e2 := cut_rep l1 l u
      rw [e] at e2
      exact p3.val R3 (.tup t1 e2)
    · split at p3
      · rename_i ds hk
        obtain ⟨q, rfl, hm⟩ := (rx.grow g).ref_inv
        obtain ⟨vs, q1, q2⟩ := ObjR.sqL (.inl (R3.ob _ _ _ hm hk))
        exact .inl ⟨q, vs, rfl, q1, PostE.lst p3 R3 (cut_rep q2 l u)⟩
      · rename_i ds hk
        obtain ⟨q, rfl, hm⟩ := (rx.grow g).ref_inv
        obtain ⟨vs, q1, q2⟩ := ObjR.sqL (.inr (R3.ob _ _ _ hm hk))
        exact .inl ⟨q, vs, rfl, q1, PostE.lst p3 R3 (cut_rep q2 l u)⟩
      · exact False.elim p3
    · exact False.elim p3
  have hi_ : ∀ (l : Option Int) (m2 : List Addr) (H2 : Hp) (h2 : Hm), Grow m1 H1 m2 H2 → R X.K X.mg m2 H2 h2 → PostE X.K X.mg (fun c d H' => W c d σ H') m2 H2 (ePart fu s h2 fun u h3 => dSl dx l u h3) Q →
      tPO X.K X.mg W fu σ H2 fun u H3 => (rSlL X.K x l u H3 Q ∨ rSlF X.K x l u H3 Q) := by
    intro l m2 H2 h2 g R2 p2
    refine ⟨m2, s, h2, R2, rs.grow (g1.trans g), ?_⟩
    cases fu with
    | none => exact fin l none m2 H2 h2 g R2 p2
    | some f =>
      refine PostE.mono (PostE.bind p2) ?_
      rintro v H3 ⟨m3, dv, h3, g3, R3, rv, p3⟩
      cases dv with
      | int i => exact ⟨i, rv.int_inv, fin l (some i) m3 H3 h3 (g.trans g3) R3 p3⟩
      | _ => exact False.elim p3
  refine ⟨m1, s, h1, R1, rs.grow g1, ?_⟩
  cases fl with
  | none => exact hi_ none m1 H1 h1 (Grow.refl _ _) R1 p1
  | some f =>
    refine PostE.mono (PostE.bind p1) ?_
    rintro v H2 ⟨m2, dv, h2, g2, R2, rv, p2⟩
    cases dv with
    | int i => exact ⟨i, rv.int_inv, hi_ (some i) m2 H2 h2 g2 R2 p2⟩
    | _ => exact False.elim p2

/-! ### fields -/
theorem lookupC {α : Type} (k : Str) (p : Str × α) (l : List (Str × α)) : (p :: l).lookup k = if k = p.1 then some p.2 else l.lookup k := by
  obtain ⟨q, v⟩ := p
  by_cases e : k = q
  · subst e; simp [List.lookup]
  · have : (k == q) = false := by simpa using e
    simp [List.lookup, this, e]
theorem RepF.look {K : PySem.W.Frag} {m : List Addr} {H : Hp} {k : Str} : ∀ {fv : List (Str × V)} {fs : List (Str × D)}, RepF K m H fv fs → (∀ d, fs.lookup k = some d → ∃ v, fv.lookup k = some v ∧ Rep K m H v d) ∧ (fs.lookup k = none → fv.lookup k = none)
  | _, _, .nil => ⟨fun d e => by simp at e, fun _ => rfl⟩
  | p :: fv, q :: fs, .cons r t => by
    obtain ⟨e1, r⟩ := r
    have ih := RepF.look (k := k) (fv := fv) (fs := fs) t
    rw [lookupC, lookupC, e1]
    by_cases e : k = q.1
    · rw [if_pos e, if_pos e]
      exact ⟨fun d z => ⟨p.2, rfl, by cases z; exact r⟩, fun z => by cases z⟩
    · rw [if_neg e, if_neg e]
      exact ih
def eFld (c f : Str) (fo : FE) : FE := fun s h => (fo s h).bind fun d h1 => match d with
  | .ref n => match h1[n]? with
    | some (.ins c' fs) => if c' = c then (match fs.lookup f with
      | some d => .ok d h1
      | none => .bad) else .bad
    | _ => .bad
  | _ => .bad
theorem se_fld {c f : Str} {C : Addr} (he : SE X W o fo) (gC : X.mg c = some (.ref C)) (cl : Cls X.K C) (na : NoAttr X.K C f) (hb : attributeBase o f X.env (eval o X.env) = eval o X.env := by rfl) : SE X W (.Attribute o f pos) (eFld c f fo) := by
  refine PE.imp (pe_fld he hb) fun σ H Q h => ?_
  obtain ⟨m, s, h, R0, rs, p⟩ := h
  refine ⟨m, s, h, R0, rs, PostE.mono (PostE.bind p) ?_⟩
  rintro x H1 ⟨m1, dx, h1, g1, R1, rx, p1⟩
  try dsimp only at p1
  split at p1
  · split at p1
    · rename_i n c' fs hn
      split at p1
      · rename_i hc
        subst hc
        split at p1
        · rename_i d hd
          obtain ⟨a, rfl, hm⟩ := rx.ref_inv
          obtain ⟨C', dx', fv, q0, q1, q2⟩ := R1.ob _ _ _ hm hn
          rw [gC] at q0
          cases q0
          obtain ⟨v, h3, h4⟩ := (RepF.look q2).1 _ hd
          exact ⟨a, C, dx', fv, v, rfl, q1, cl, na, h3, p1.val R1 h4⟩
        · exact False.elim p1
      · exact False.elim p1
    · exact False.elim p1
  · exact False.elim p1

/-! ### built-ins -/
def bLen (ds : List D) (h : Hm) : RD := match ds with
  | [.str z] => if z.length ≤ big then .ok (.int z.length) h else .bad
  | [d] => match items h d with
    | some xs => .ok (.int xs.length) h
    | none => .bad
  | _ => .bad
theorem cs_len : CallS X (fun xs H Q => ∃ x n, xs = [x] ∧ LenV X.K x H n ∧ Q (.int n) H) bLen := by
  intro W m H h vs ds Q r rv p
  unfold bLen at p
  split at p
  · split at p
    · rename_i hz
      cases rv with | cons r1 r2 => cases r2; cases r1; exact ⟨_, _, rfl, ⟨big_line hz, rfl⟩, p.val r (.int _)⟩
    · exact False.elim p
  · split at p
    · rename_i xs hi
      cases rv with
      | cons r1 r2 =>
        cases r2
        obtain ⟨q, ws, rfl, h1, l1⟩ := items_sq r r1 hi
        have e := l1.length
        rcases h1 with h1 | h1
        · exact ⟨_, xs.length, rfl, .inl ⟨ws, h1, e.symm⟩, p.val r (.int _)⟩
        · exact ⟨_, xs.length, rfl, .inr ⟨ws, h1, e.symm⟩, p.val r (.int _)⟩
    · exact False.elim p
  · exact False.elim p
def bInt (ds : List D) (h : Hm) : RD := match ds with
  | [.int i] => .ok (.int i) h
  | _ => .bad
theorem cs_int : CallS X (fun xs H Q => (∃ i, xs = [.int i] ∧ Q (.int i) H) ∨ ∃ k, xs = [.bl k] ∧ Q (.int (if k then 1 else 0)) H) bInt := by
  intro W m H h vs ds Q r rv p
  unfold bInt at p
  split at p
  · cases rv with | cons r1 r2 => cases r2; cases r1; exact .inl ⟨_, rfl, p.val r (.int _)⟩
  · exact False.elim p
def bList (ds : List D) (h : Hm) : RD := match ds with
  | [d] => match items h d with
    | some xs => .ok (.ref h.length) (h ++ [.lst xs])
    | none => .bad
  | _ => .bad
theorem cs_list : CallS X (fun xs H Q => ∃ p ys, xs = [.ref p] ∧ (SqL X.K H p ys ∨ SqT X.K H p ys) ∧ ∀ l, H l = none → Q (.ref l) (upd H l (.lst ys))) bList := by
  intro W m H h vs ds Q r rv p
  unfold bList at p
  split at p
  · split at p
    · rename_i xs hi
      cases rv with
      | cons r1 r2 =>
        cases r2
        obtain ⟨q, ws, rfl, h1, l1⟩ := items_sq r r1 hi
        exact ⟨q, ws, rfl, h1, PostE.lst p r l1⟩
    · exact False.elim p
  · exact False.elim p
def bTuple (ds : List D) (h : Hm) : RD := match ds with
  | [d] => match items h d with
    | some xs => .ok (.tup xs) h
    | none => .bad
  | _ => .bad
theorem cs_tuple : CallS X (fun xs H Q => ∃ p ys, xs = [.ref p] ∧ ((SqL X.K H p ys ∧ rTupF ys H Q) ∨ (SqT X.K H p ys ∧ Q (.ref p) H))) bTuple := by
  intro W m H h vs ds Q r rv p
  unfold bTuple at p
  split at p
  · rename_i d
    split at p
    · rename_i xs hi
      cases rv with
      | cons r1 r2 =>
        cases r2
        cases d with
        | tup es =>
          cases hi
          obtain ⟨q, ws, rfl, h1, l1⟩ := r1.tup_inv
          exact ⟨q, ws, rfl, .inr ⟨h1.sqT, p.val r (.tup h1 l1)⟩⟩
        | scl es =>
          cases hi
          obtain ⟨q, ws, rfl, h1, l1⟩ := r1.scl_inv
          exact ⟨q, ws, rfl, .inl ⟨h1.sqL, fun q o hq ho => PostE.tup p r l1 q o hq ho⟩⟩
        | ref k =>
          obtain ⟨a, rfl, hm⟩ := r1.ref_inv
          unfold items at hi
          simp only at hi
          split at hi
          · rename_i es hk
            cases hi
            obtain ⟨vs, q1, q2⟩ := ObjR.sqL (.inl (r.ob _ _ _ hm hk))
            exact ⟨a, vs, rfl, .inl ⟨q1, fun q o hq ho => PostE.tup p r q2 q o hq ho⟩⟩
          · rename_i es hk
            cases hi
            obtain ⟨vs, q1, q2⟩ := ObjR.sqL (.inr (r.ob _ _ _ hm hk))
            exact ⟨a, vs, rfl, .inl ⟨q1, fun q o hq ho => PostE.tup p r q2 q o hq ho⟩⟩
          · cases hi
        | _ => cases hi
    · exact False.elim p
  · exact False.elim p
def bls : List D → Option (List Bool)
  | [] => some []
  | .bl b :: r => (bls r).map (b :: ·)
  | _ => none
theorem bls_rep {K : PySem.W.Frag} {m : List Addr} {H : Hp} : ∀ {vs : List V} {ds : List D} {bs : List Bool}, RepL K m H vs ds → bls ds = some bs → vs = bs.map V.bl
  | _, _, bs, .nil, e => by cases e; rfl
  | _, _, bs, .cons (d := d) r t, e => by
    cases d with
    | bl b =>
      obtain ⟨bs', h1, rfl⟩ := Option.map_eq_some_iff.mp e
      rw [r.bl_inv, bls_rep t h1]
      rfl
    | _ => cases e
/-- all, any of a list of truth values -/
def bQuant (g : List Bool → Bool) (ds : List D) (h : Hm) : RD := match ds with
  | [.ref k] => match h[k]? with
    | some (.lst xs) => match bls xs with
      | some bs => .ok (.bl (g bs)) h
      | none => .bad
    | _ => .bad
  | _ => .bad
theorem cs_quant (g : List Bool → Bool) : CallS X (fun vs H Q => ∃ (a : Addr) (bs : List Bool), vs = [V.ref a] ∧ SqL X.K H a (bs.map V.bl) ∧ Q (.bl (g bs)) H) (bQuant g) := by
  intro W m H h vs ds Q r rv p
  unfold bQuant at p
  split at p
  · split at p
    · rename_i k xs hk
      split at p
      · rename_i bs hb
        cases rv with
        | cons r1 r2 =>
          cases r2
          obtain ⟨a, rfl, hm⟩ := r1.ref_inv
          obtain ⟨ws, q1, q2⟩ := r.ob _ _ _ hm hk
          exact ⟨a, bs, rfl, .inl (.inl (by rw [q1, bls_rep q2 hb])), p.val r (.bl _)⟩
      · exact False.elim p
    · exact False.elim p
  · exact False.elim p
abbrev bAll := bQuant fun bs => bs.all id
abbrev bAny := bQuant fun bs => bs.any id

/-! ### isinstance(x, T), T a built-in type -/
def tyN (h : Hm) : D → Option String
  | .non => some "NoneType"
  | .bl _ => some "bool"
  | .int _ => some "int"
  | .str _ => some "str"
  | .tup _ => some "tuple"
  | .ref n => match h[n]? with
    | some (.lst _) => some "list"
    | some (.scr _) => some "list"
    | some (.dk _) => some "dict"
    | _ => none
  | .scl _ => none
def isiB (T : String) (h : Hm) (d : D) : Option Bool := (tyN h d).bind fun a => kitB a T
def eIsi (T : String) (fo : FE) : FE := fun s h => (fo s h).bind fun d h1 => match isiB T h1 d with
  | some b => .ok (.bl b) h1
  | none => .bad
theorem tyN_ok {K : PySem.W.Frag} {mg : Str → Option Value} {m : List Addr} {H : Hp} {h : Hm} (r : R K mg m H h) {v : V} {d : D} {n : String} (x : Rep K m H v d) (e : tyN h d = some n) : TyX K H v (.type n) := by
  cases d with
  | non => cases e; cases x; exact .base .non
  | bl b => cases e; cases x; exact .base (.bl b)
  | int b => cases e; cases x; exact .base (.int b)
  | str b => cases e; cases x; exact .base (.str b)
  | tup ds =>
    cases e
    obtain ⟨a, vs, rfl, t, _⟩ := x.tup_inv
    rcases t with ⟨o, h1, _⟩ | ⟨o, its, n, h1, h2, _⟩
    · exact .fTuple h1
    · exact .kTuple h1 h2
  | scl ds => cases e
  | ref k =>
    obtain ⟨a, rfl, hm⟩ := x.ref_inv
    unfold tyN at e
    simp only at e
    split at e
    · rename_i ds hk
      cases e
      obtain ⟨vs, q1, q2⟩ := r.ob _ _ _ hm hk
      exact .base (.lst q1)
    · rename_i ds hk
      cases e
      obtain ⟨vs, q1, q2⟩ := r.ob _ _ _ hm hk
      rcases q1 with q1 | ⟨ob, q1⟩
      · exact .base (.lst q1)
      · exact .base (.frz q1)
    · rename_i ds hk
      cases e
      obtain ⟨vs, q1, q2⟩ := r.ob _ _ _ hm hk
      exact .base (.dK q1)
    · cases e
theorem se_isi {x T : Str} {t : String} {p p2 : Pos} (he : SE X W o fo) (hg : Gl X x) (hm : X.mg x = none) (hv : bootBuiltins x = some (.builtin "isinstance")) (hT : Gl X T) (hmT : X.mg T = none) (hvT : bootBuiltins T = some (.type t)) (hn : x ≠ "__name__" := by decide)
    (hdb : (x == ("__debug__" : Str)) = false := by decide) (hnT : T ≠ "__name__" := by decide) (hdbT : (T == ("__debug__" : Str)) = false := by decide)
    (hst : starEach (o :: [.Name T p2]) X.env = (false, eval o X.env) :: starEach [.Name T p2] X.env := by rfl) (hpl : (backTo pos (starEach [.Name T p2] X.env)).any (·.1) = false := by rfl) (hst2 : starEach [.Name T p2] X.env = (false, eval (.Name T p2) X.env) :: starEach [] X.env := by rfl) :
    SE X W (.Call (.Name x p) (o :: [.Name T p2]) [] pos) (eIsi t fo) := by
  refine PE.imp (pe_callB call_isi hg hm hv (pa_cons he (pa_cons (pe_bltn (v := .ty t) hT hmT hvT rfl hnT hdbT) pa_nil hst2) hst) hn hdb hst hpl) fun σ H Q h => ?_
  obtain ⟨m, s, h, R0, rs, p⟩ := h
  refine ⟨m, s, h, R0, rs, PostE.mono (PostE.bind p) ?_⟩
  rintro x H1 ⟨m1, dx, h1, g1, R1, rx, p1⟩
  try dsimp only at p1
  split at p1
  · rename_i b hb
    obtain ⟨n, h1, h2⟩ := Option.bind_eq_some_iff.mp hb
    exact ⟨x, .ty t, .type n, .type t, b, rfl, .ty t, tyN_ok R1 rx h1, kit_ty h2, p1.val R1 (.bl _)⟩
  · exact False.elim p1

/-! ### a list's own methods -/
def eLm (g : Nat → List D → List D → Hm → RD) (fo : FE) (fs : List FE) : FE := fun s h => (fo s h).bind fun d h1 => match d with
  | .ref n => match h1[n]? with
    | some (.lst _) => eArgs (fun ds h2 => match h2[n]? with
      | some (.lst xs) => g n xs ds h2
      | _ => .bad) fs s h1
    | _ => .bad
  | _ => .bad
/-- the method by values bears the one by data -/
def LmS (X : Cx) (r : V → List V → Hp → VK → Prop) (g : Nat → List D → List D → Hm → RD) : Prop := ∀ (W : XK) (m : List Addr) (H : Hp) (h : Hm) (n : Nat) (a : Addr) (xs : List D) (us vs : List V) (ds : List D) (Q : VK),
  R X.K X.mg m H h → m[n]? = some a → h[n]? = some (.lst xs) → H a = some (.lst us) → RepL X.K m H us xs → RepL X.K m H vs ds → PostE X.K X.mg W m H (g n xs ds h) Q → r (.ref a) vs H Q
variable {name : Str} {id : String} {r : V → List V → Hp → VK → Prop} {g : Nat → List D → List D → Hm → RD}
theorem lm_ok (hr : LmS X r g) {σ : L2.St} {H : Hp} {Q : VK} {to : TE} {t : TA} (ht : t = tSA X.K X.mg W (evalL fs)) (h : tS X.K X.mg W (eLm g fo fs) σ H Q) : tBM X.K "list" r (tS X.K X.mg W fo) t σ H Q := by
  subst ht
  obtain ⟨m, s, h, R0, rs, p⟩ := h
  refine ⟨m, s, h, R0, rs, PostE.mono (PostE.bind p) ?_⟩
  rintro x H1 ⟨m1, dx, h1, g1, R1, rx, p1⟩
  try dsimp only at p1
  split at p1
  · split at p1
    · rename_i n _ xs hk
      obtain ⟨a, rfl, hm⟩ := rx.ref_inv
      obtain ⟨us, q1, q2⟩ := R1.ob _ _ _ hm hk
      refine ⟨.inl ⟨rfl, us, .inl (.inl q1)⟩, ?_⟩
      refine args_ok' (r := fun xs H2 Q => r (.ref a) xs H2 Q) R1 (rs.grow g1) p1 fun m2 H2 vs ds h2 g2 R2 rvs ee p2 => ?_
      try dsimp only at p2
      split at p2
      · rename_i ys hk2
        have hm2 := g2.loc _ _ hm
        obtain ⟨us2, q3, q4⟩ := R2.ob _ _ _ hm2 hk2
        exact hr _ m2 H2 h2 n a ys us2 vs ds Q R2 hm2 hk2 q3 q4 rvs p2
      · exact False.elim p2
    · exact False.elim p1
  · exact False.elim p1
end
end Sh

set_option Elab.async false
set_option linter.all false
set_option maxRecDepth 100000
set_option maxHeartbeats 4000000
namespace Sh
open PySem L2 PyProof.Rows
section
variable {X : Cx} {W : WX} {e a b c o : Expr} {f fa fb fc fo : FE} {pos apos cpos : Pos} {es : List Expr} {fs : List FE} {name : Str} {id : String} {r : V → List V → Hp → VK → Prop} {g : Nat → List D → List D → Hm → RD}
theorem se_lm (pa : PlainAttrs "list") (slot : Slot "list" name id) (hty : typeOf (.builtin id) = pure (.type "method_descriptor")) (hm : MtR X id r) (hr : LmS X r g) (ho : SE X W o fo) (ha : SA X W (e :: es) (evalL fs))
    (hbase : attributeBase o name X.env (eval o X.env) = eval o X.env := by rfl)
    (hfew : ((backTo cpos (starEach (e :: es) X.env)).all (fun x => !x.1) && (backToKw cpos (keywordEach [] X.env)).all (fun x => x.1.isSome)
      && decide ((e :: es).length + ([] : List Keyword).length + (if ([] : List Keyword).isEmpty then 0 else 1) < 30)) = true := by rfl)
    (hline : (apos.endLine == cpos.line) = true := by rfl) (hs : starEach (e :: es) X.env = (false, eval e X.env) :: starEach es X.env := by rfl) (hplain : (backTo cpos (starEach es X.env)).any (·.1) = false := by rfl) :
    SE X W (.Call (.Attribute o name apos) (e :: es) [] cpos) (eLm g fo fs) :=
  PE.imp (pe_bm pa slot hty hm ho ha hbase hfew hline hs hplain) fun σ H Q h => lm_ok (to := tS X.K X.mg W fo) hr rfl h
theorem se_lm0 (pa : PlainAttrs "list") (slot : Slot "list" name id) (hty : typeOf (.builtin id) = pure (.type "method_descriptor")) (hm : MtR X id r) (hr : LmS X r g) (ho : SE X W o fo)
    (hbase : attributeBase o name X.env (eval o X.env) = eval o X.env := by rfl) (hline : (apos.endLine == cpos.line) = true := by rfl) : SE X W (.Call (.Attribute o name apos) [] [] cpos) (eLm g fo []) := by
  refine PE.imp (pe_bm0 pa slot hty hm ho hbase hline) fun σ H Q h => ?_
  obtain ⟨m, s, h, R0, rs, p⟩ := h
  refine ⟨m, s, h, R0, rs, PostE.mono (PostE.bind p) ?_⟩
  rintro x H1 ⟨m1, dx, h1, g1, R1, rx, p1⟩
  try dsimp only at p1
  split at p1
  · split at p1
    · rename_i n _ xs hk
      obtain ⟨a, rfl, hm⟩ := rx.ref_inv
      obtain ⟨us, q1, q2⟩ := R1.ob _ _ _ hm hk
      refine ⟨.inl ⟨rfl, us, .inl (.inl q1)⟩, ?_⟩
      simp only [eArgs, evalL, hk] at p1
      exact hr _ m1 H1 h1 n a xs us [] [] Q R1 hm hk q1 q2 .nil p1
    · exact False.elim p1
  · exact False.elim p1

/-! the methods -/
def lAppend (n : Nat) (xs ds : List D) (h : Hm) : RD := match ds with
  | [d] => if xs.length < big then .ok .non (h.set n (.lst (xs ++ [d]))) else .bad
  | _ => .bad
theorem big_lt {n : Nat} (h : n < big) : n < sizeLine := by
  rw [sizeLine_eq]
  unfold big at h
  omega
theorem R.lset {K : PySem.W.Frag} {mg : Str → Option Value} {m : List Addr} {H : Hp} {h : Hm} {n : Nat} {a : Addr} {xs ys : List D} {vs : List V} (r : R K mg m H h) (hm : m[n]? = some a) (hk : h[n]? = some (.lst xs)) (l : RepL K m H vs ys) :
    Grow m H m (upd H a (.lst vs)) ∧ R K mg m (upd H a (.lst vs)) (h.set n (.lst ys)) := by
  have xo := r.ob _ _ _ hm hk
  have g : Grow m H m (upd H a (.lst vs)) := Grow.set xo rfl
  exact ⟨g, r.set hm hk rfl ⟨vs, upd_same, l.grow g⟩⟩
theorem ls_append : LmS X rAppend lAppend := by
  intro W m H h n a xs us vs ds Q r hm hk hu l1 l2 p
  unfold lAppend at p
  split at p
  · split at p
    · rename_i d hz
      cases l2 with
      | cons rv rn =>
        cases rn
        obtain ⟨g, r2⟩ := r.lset hm hk (l1.app (.cons rv .nil))
        exact ⟨a, us, _, rfl, rfl, hu, big_lt (by rw [l1.length]; exact hz), p m _ _ g r2 .non⟩
    · exact False.elim p
  · exact False.elim p
def lExtend (n : Nat) (xs ds : List D) (h : Hm) : RD := match ds with
  | [.ref k] => match h[k]? with
    | some (.lst ys) => if xs.length + ys.length ≤ big then .ok .non (h.set n (.lst (xs ++ ys))) else .bad
    | _ => .bad
  | _ => .bad
theorem ls_extend : LmS X rExtend lExtend := by
  intro W m H h n a xs us vs ds Q r hm hk hu l1 l2 p
  unfold lExtend at p
  split at p
  · split at p
    · rename_i k _ ys hy
      split at p
      · rename_i hz
        cases l2 with
        | cons rv rn =>
          cases rn
          obtain ⟨b, rfl, hb⟩ := rv.ref_inv
          obtain ⟨ws, q1, q2⟩ := r.ob _ _ _ hb hy
          obtain ⟨g, r2⟩ := r.lset hm hk (l1.app q2)
          have e1 := l1.length
          have e2 := q2.length
          exact ⟨a, b, us, ws, rfl, rfl, hu, q1, big_line (by omega), p m _ _ g r2 .non⟩
      · exact False.elim p
    · exact False.elim p
  · exact False.elim p
def lPopAt (n : Nat) (xs ds : List D) (h : Hm) : RD := match ds with
  | [.int i] => if -(2 ^ 63) ≤ i ∧ i < 2 ^ 63 then (match seqIndex? i xs.length with
    | some k => match xs[k]? with
      | some d => .ok d (h.set n (.lst (xs.eraseIdx k)))
      | none => .bad
    | none => .bad) else .bad
  | _ => .bad
theorem ls_popAt : LmS X rPopAt lPopAt := by
  intro W m H h n a xs us vs ds Q r hm hk hu l1 l2 p
  unfold lPopAt at p
  split at p
  · split at p
    · rename_i i hz
      split at p
      · rename_i k hk2
        split at p
        · rename_i d hd
          cases l2 with
          | cons rv rn =>
            cases rn
            cases rv
            obtain ⟨v, h1, h2⟩ := l1.get hd
            obtain ⟨g, r2⟩ := r.lset hm hk (l1.eraseIdx k)
            exact ⟨a, us, i, k, v, rfl, rfl, hu, hz.1, hz.2, by rw [l1.length]; exact hk2, h1, p m _ _ g r2 (h2.grow g)⟩
        · exact False.elim p
      · exact False.elim p
    · exact False.elim p
  · exact False.elim p
def lClear (n : Nat) (xs ds : List D) (h : Hm) : RD := match ds with
  | [] => .ok .non (h.set n (.lst []))
  | _ => .bad
theorem ls_clear : LmS X rClear lClear := by
  intro W m H h n a xs us vs ds Q r hm hk hu l1 l2 p
  unfold lClear at p
  split at p
  · cases l2
    obtain ⟨g, r2⟩ := r.lset hm hk .nil
    exact ⟨a, us, rfl, rfl, hu, p m _ _ g r2 .non⟩
  · exact False.elim p

/-! ### a tuple's count -/
def eTm (g : List D → List D → Hm → RD) (fo : FE) (fs : List FE) : FE := fun s h => (fo s h).bind fun d h1 => match d with
  | .tup xs => eArgs (fun ds h2 => g xs ds h2) fs s h1
  | _ => .bad
def TmS (X : Cx) (r : V → List V → Hp → VK → Prop) (g : List D → List D → Hm → RD) : Prop := ∀ (W : XK) (m : List Addr) (H : Hp) (h : Hm) (a : Addr) (xs : List D) (us vs : List V) (ds : List D) (Q : VK),
  R X.K X.mg m H h → TupS X.K H a us → RepL X.K m H us xs → RepL X.K m H vs ds → PostE X.K X.mg W m H (g xs ds h) Q → r (.ref a) vs H Q
variable {gt : List D → List D → Hm → RD}
theorem se_tm (pa : PlainAttrs "tuple") (slot : Slot "tuple" name id) (hty : typeOf (.builtin id) = pure (.type "method_descriptor")) (hm : MtR X id r) (hr : TmS X r gt) (ho : SE X W o fo) (ha : SA X W (e :: es) (evalL fs))
    (hbase : attributeBase o name X.env (eval o X.env) = eval o X.env := by rfl)
    (hfew : ((backTo cpos (starEach (e :: es) X.env)).all (fun x => !x.1) && (backToKw cpos (keywordEach [] X.env)).all (fun x => x.1.isSome)
      && decide ((e :: es).length + ([] : List Keyword).length + (if ([] : List Keyword).isEmpty then 0 else 1) < 30)) = true := by rfl)
    (hline : (apos.endLine == cpos.line) = true := by rfl) (hs : starEach (e :: es) X.env = (false, eval e X.env) :: starEach es X.env := by rfl) (hplain : (backTo cpos (starEach es X.env)).any (·.1) = false := by rfl) :
    SE X W (.Call (.Attribute o name apos) (e :: es) [] cpos) (eTm gt fo fs) := by
  refine PE.imp (pe_tm pa slot hty hm ho ha hbase hfew hline hs hplain) fun σ H Q h => ?_
  obtain ⟨m, s, h, R0, rs, p⟩ := h
  refine ⟨m, s, h, R0, rs, PostE.mono (PostE.bind p) ?_⟩
  rintro x H1 ⟨m1, dx, h1, g1, R1, rx, p1⟩
  cases dx with
  | tup xs =>
    obtain ⟨a, us, rfl, t1, l1⟩ := rx.tup_inv
    refine ⟨⟨a, us, rfl, t1⟩, ?_⟩
    exact args_ok' (r := fun xs H2 Q => r (.ref a) xs H2 Q) R1 (rs.grow g1) p1 fun m2 H2 vs ds h2 g2 R2 rvs ee p2 => hr _ m2 H2 h2 a xs us vs ds Q R2 (g2.tupS t1) (l1.grow g2) rvs p2
  | _ => exact False.elim p1
def rCntT (K : PySem.W.Frag) : V → List V → Hp → VK → Prop := fun x vs H Q => ∃ (p : Addr) (ys : List V) (y : V) (ps : List PyData) (d : PyData), x = .ref p ∧ vs = [y] ∧ SqT K H p ys ∧ DpAll K H ys ps ∧ Dp K H y d ∧
  PyData.plainAll ps = true ∧ d.plain = true ∧ PyData.depthAll ps ≤ 60 ∧ Q (.int ((ps.countP fun z => PyData.eqv z d : Nat) : Int)) H
theorem mt_tcount (hu : X.A.units + 64 < cLine) : MtR X "tuple.count" (rCntT X.K) := by
  intro pins s σ H x xs v us Q I rx rxs h
  obtain ⟨p, ys, y, ps, d, rfl, rfl, ht, hp, hd, h1, h2, h3, q⟩ := h
  cases rx
  obtain ⟨u, rfl, ru⟩ := rxs.one
  obtain ⟨its, rv, pl, hz⟩ := I.tuple ht
  obtain ⟨as, r1⟩ := Dp.readsAll I ps _ its hp rv
  obtain ⟨bs, r2⟩ := Dp.reads I d y u hd ru
  exact SeqAt.count_tuple_data (show s.heap.IsTuple p its.toArray from pl) (show ReadsAll s.heap its.toArray.toList ps as from r1) r2 h1 h2 (by have := Nat.min_le_left (PyData.depthAll ps) d.depth; omega) ⟨.int _, H, I.tok _, ⟨_, rfl⟩, q⟩
/-- flat things as the library has them -/
def flatP : D → PyData
  | .bl b => .bool b | .int i => .int i | .str x => .str x
  | _ => .none
theorem flat_dp {K : PySem.W.Frag} {m : List Addr} {H : Hp} {x : V} {d : D} (r : Rep K m H x d) (f : flatD d = true) : Dp K H x (flatP d) := by
  cases r <;> first | exact .non | exact .bl _ | exact .int _ | exact .str _ | cases f
theorem flat_dpL {K : PySem.W.Frag} {m : List Addr} {H : Hp} : ∀ {vs : List V} {ds : List D}, RepL K m H vs ds → ds.all flatD = true → DpAll K H vs (ds.map flatP)
  | _, _, .nil, _ => .nil
  | _, _, .cons r t, f => by
    rw [List.all_cons, Bool.and_eq_true] at f
    exact .cons (flat_dp r f.1) (flat_dpL t f.2)
theorem flat_plain : ∀ d : D, (flatP d).plain = true := by intro d; cases d <;> rfl
theorem flat_plainAll : ∀ ds : List D, PyData.plainAll (ds.map flatP) = true
  | [] => rfl
  | d :: ds => by
    rw [List.map_cons]
    show ((flatP d).plain && PyData.plainAll (ds.map flatP)) = true
    rw [flat_plain, flat_plainAll ds]
    rfl
theorem flat_depth : ∀ d : D, (flatP d).depth = 0 := by intro d; cases d <;> rfl
theorem flat_depthAll : ∀ ds : List D, PyData.depthAll (ds.map flatP) ≤ 60
  | [] => by simp [PyData.depthAll]
  | d :: ds => by
    have ih := flat_depthAll ds
    have e := flat_depth d
    rw [List.map_cons]
    simp only [PyData.depthAll]
    omega
theorem flat_eqv {a b : D} (ha : flatD a = true) (hb : flatD b = true) : PyData.eqv (flatP a) (flatP b) = eqF a b := by
  cases a <;> cases b <;> first
    | rfl
    | (cases ha; done)
    | (cases hb; done)
    | (rename_i x y; cases x <;> cases y <;> rfl)
    | (rename_i x y; cases x <;> rfl)
    | (rename_i x y; cases y <;> rfl)
def tCount (xs ds : List D) (h : Hm) : RD := match ds with
  | [d] => if flatD d = true ∧ xs.all flatD = true then .ok (.int ((xs.countP fun z => eqF z d : Nat) : Int)) h else .bad
  | _ => .bad
theorem ts_count : TmS X (rCntT X.K) tCount := by
  intro W m H h a xs us vs ds Q r ht l1 l2 p
  unfold tCount at p
  split at p
  · split at p
    · rename_i d hf
      cases l2 with
      | cons rv rn =>
        cases rn
        refine ⟨a, us, _, xs.map flatP, flatP d, rfl, rfl, ht.sqT, flat_dpL l1 hf.2, flat_dp rv hf.1, flat_plainAll _, flat_plain _, flat_depthAll _, ?_⟩
        have e : (xs.map flatP).countP (fun z => PyData.eqv z (flatP d)) = xs.countP fun z => eqF z d := by
          rw [List.countP_map]
          refine List.countP_congr fun z hz => ?_
          have hz' := List.all_eq_true.mp hf.2 z hz
          simp only [Function.comp]
          rw [flat_eqv hz' hf.1]
        rw [e]
        exact p.val r (.int _)
    · exact False.elim p
  · exact False.elim p

/-! ### list(range(..)) -/
def rgD (a b : Int) : List D := (List.range (b - a).toNat).map fun i => D.int (a + (i : Nat))
theorem rg_rep {K : PySem.W.Frag} {m : List Addr} {H : Hp} (a b : Int) : RepL K m H (rgV a b) (rgD a b) := by
  unfold rgV rgD
  generalize List.range (b - a).toNat = l
  induction l with
  | nil => exact .nil
  | cons i l ih => exact .cons (.int _) ih
def bListRg (d : D) (h : Hm) : RD := match d with
  | .int n => if n ≤ 1000000 ∧ -1000000 ≤ n then .ok (.ref h.length) (h ++ [.lst (rgD 0 n)]) else .bad
  | _ => .bad
def eListRg (fo : FE) : FE := fun s h => (fo s h).bind bListRg
theorem se_listRg {p p2 pos2 : Pos} (hc : X.calm = true) (hg : Gl X "list") (hm : X.mg "list" = none) (hg2 : Gl X "range") (hm2 : X.mg "range" = none) (ho : SE X W o fo)
    (na : starEach [o] X.env = (false, eval o X.env) :: starEach [] X.env := by rfl) (na2 : starEach [.Call (.Name "range" p2) [o] [] pos2] X.env = (false, eval (.Call (.Name "range" p2) [o] [] pos2) X.env) :: starEach [] X.env := by rfl) :
    SE X W (.Call (.Name "list" p) [.Call (.Name "range" p2) [o] [] pos2] [] pos) (eListRg fo) := by
  refine PE.imp (pe_listRg hc hg hm (prg_1 hg2 hm2 ho na) na2) fun σ H Q h => ?_
  obtain ⟨m, s, h, R0, rs, p⟩ := h
  refine ⟨m, s, h, R0, rs, PostE.mono (PostE.bind p) ?_⟩
  rintro x H1 ⟨m1, dx, h1, g1, R1, rx, p1⟩
  unfold bListRg at p1
  split at p1
  · split at p1
    · rename_i n hn
      cases rx
      exact ⟨n, rfl, ⟨by omega, by omega, by omega, by omega, by omega⟩, PostE.lst p1 R1 (rg_rep 0 n)⟩
    · exact False.elim p1
  · exact False.elim p1

/-! ### own methods, instances -/
variable {k n : Nat} {fA C : Addr} {fd : FuncData} {ps : List Str} {F : FF} {mn : Str}
def tMethS (C : Addr) (m : Str) (sp : Sp) (E : L2.St → XK) (ta : TE) (t : TA) : TE := fun σ H Q => ta σ H fun x H1 => ∃ a dx fs, x = .ref a ∧ H1 a = some (.ins C dx fs) ∧ fs.lookup m = none ∧ t σ H1 fun vs H2 => sp (x :: vs) H2 Q (E σ)
theorem pe_methS {CX : CXT} {sp : Sp} {E : L2.St → XK} {ta : TE} {t : TA} {pl : Sem Bool} (he : PE X o ta) (c : Cls X.K C) (hm : Meth X.K C mn fA) (F : FnOk X.prog X.w X.K X.mg X.base CX k fA fd ps sp) (hr : Room k X.A) (hb : Binds X.K fd ps []) (hx : ∀ σ, PassesAt CX X σ (E σ)) (ha : PA X (e :: es) t)
    (hst : starEach (e :: es) X.env = (false, eval e X.env) :: starEach es X.env := by rfl) (hpl : (backTo pos (starEach es X.env)).any (·.1) = false := by rfl)
    (ht : eval (.Call (.Attribute o mn apos) (e :: es) [] pos) X.env = (do
      let ov ← eval o X.env
      standAt apos.atName
      let (f, first) ← holding [ov] (getMethod ov mn pl)
      callWith pos f first (backTo pos (starEach (e :: es) X.env)) (backToKw pos (keywordEach [] X.env))) := by rfl) :
    PE X (.Call (.Attribute o mn apos) (e :: es) [] pos) (tMethS C mn sp E ta t) := by
  refine ⟨fun pins s σ H Q I h => ?_⟩
  refine PySem.W.methodCall_KW (pl := pl) (thn (he.run pins s σ H _ I h) fun u s1 ⟨x, H1, I1, rx, a, dx, fs, ex, ea, l, q⟩ => ?_) ht
  subst ex
  obtain rfl : u = Value.ref a := rx
  refine getmeth_ok I1 ea c hm l ?_
  refine PySem.W.callWith_K (first := [.ref a]) (h₀ := X.base) I.ok.mod.kin hm.kp (thn (ha.run pos pins s1 σ H1 _ I1 q) fun us s2 ⟨vs, H2, I2, r, q2⟩ => ⟨I2.kIn, ?_⟩) hst hpl
  exact run_fnS (us := .ref a :: us) (vs := .ref a :: vs) F hr hb (hx σ) I2 (.cons rfl r) q2
theorem pe_methS0 {CX : CXT} {sp : Sp} {E : L2.St → XK} {ta : TE} {pl : Sem Bool} (he : PE X o ta) (c : Cls X.K C) (hm : Meth X.K C mn fA) (F : FnOk X.prog X.w X.K X.mg X.base CX k fA fd ps sp) (hr : Room k X.A) (hb : Binds X.K fd ps []) (hx : ∀ σ, PassesAt CX X σ (E σ))
    (ht : eval (.Call (.Attribute o mn apos) [] [] pos) X.env = (do
      let ov ← eval o X.env
      standAt apos.atName
      let (f, first) ← holding [ov] (getMethod ov mn pl)
      callWith pos f first (backTo pos (starEach [] X.env)) (backToKw pos (keywordEach [] X.env))) := by rfl) :
    PE X (.Call (.Attribute o mn apos) [] [] pos) (tMethS C mn sp E ta tNil) := by
  refine ⟨fun pins s σ H Q I h => ?_⟩
  refine PySem.W.methodCall_KW (pl := pl) (thn (he.run pins s σ H _ I h) fun u s1 ⟨x, H1, I1, rx, a, dx, fs, ex, ea, l, q⟩ => ?_) ht
  subst ex
  obtain rfl : u = Value.ref a := rx
  refine getmeth_ok I1 ea c hm l ?_
  exact PySem.W.callWith_K0 (first := [.ref a]) I1.kIn hm.kp (run_fnS (us := [.ref a]) (vs := [.ref a]) F hr hb (hx σ) I1 (.cons rfl .nil) q)
def eMeth (c mn : Str) (F : FF) (fo : FE) (fs : List FE) : FE := fun s h => (fo s h).bind fun d h1 => match d with
  | .ref n => match h1[n]? with
    | some (.ins c' fl) => if c' = c ∧ fl.lookup mn = none then eArgs (fun ds h2 => F (.ref n :: ds) h2) fs s h1 else .bad
    | _ => .bad
  | _ => .bad
theorem meth_ok {cn : Str} (gC : X.mg cn = some (.ref C)) (hl : fs.length + 1 = ps.length) {σ : L2.St} {H : Hp} {Q : VK} {t : TA} (ht : t = tSA X.K X.mg W (evalL fs)) (h : tS X.K X.mg W (eMeth cn mn F fo fs) σ H Q) : tMethS C mn (spF X.K X.mg ps.length F) (WE W) (tS X.K X.mg W fo) t σ H Q := by
  subst ht
  obtain ⟨m, s, h, R0, rs, p⟩ := h
  refine ⟨m, s, h, R0, rs, PostE.mono (PostE.bind p) ?_⟩
  rintro x H1 ⟨m1, dx, h1, g1, R1, rx, p1⟩
  try dsimp only at p1
  split at p1
  · split at p1
    · rename_i n _ c' fl hk
      split at p1
      · rename_i hc
        obtain ⟨hc, hl2⟩ := hc
        subst hc
        obtain ⟨a, rfl, hm⟩ := rx.ref_inv
        obtain ⟨C', dx', fv, q0, q1, q2⟩ := R1.ob _ _ _ hm hk
        rw [gC] at q0
        cases q0
        refine ⟨a, dx', fv, rfl, q1, (RepF.look q2).2 hl2, ?_⟩
        refine args_ok' (r := fun vs H2 Q => spF X.K X.mg ps.length F (.ref a :: vs) H2 Q (WE W σ)) R1 (rs.grow g1) p1 fun m2 H2 vs ds h2 g2 R2 rvs ee p2 => ?_
        refine ⟨?_, m2, .ref n :: ds, h2, R2, .cons (.ref (g2.loc _ _ hm)) rvs, p2⟩
        rw [List.length_cons, rvs.length, evalL_length ee]
        exact hl
      · exact False.elim p1
    · exact False.elim p1
  · exact False.elim p1
theorem se_meth {cn : Str} {pl : Sem Bool} (G : FnS X k fA fd ps F) (tk : Takes X W) (hr : Room k X.A) (gC : X.mg cn = some (.ref C)) (cl : Cls X.K C) (hm : Meth X.K C mn fA) (hb : Binds X.K fd ps []) (ho : SE X W o fo) (ha : SA X W (e :: es) (evalL fs)) (hl : decide (fs.length + 1 = ps.length) = true := by rfl)
    (hst : starEach (e :: es) X.env = (false, eval e X.env) :: starEach es X.env := by rfl) (hpl : (backTo pos (starEach es X.env)).any (·.1) = false := by rfl)
    (ht : eval (.Call (.Attribute o mn apos) (e :: es) [] pos) X.env = (do
      let ov ← eval o X.env
      standAt apos.atName
      let (f, first) ← holding [ov] (getMethod ov mn pl)
      callWith pos f first (backTo pos (starEach (e :: es) X.env)) (backToKw pos (keywordEach [] X.env))) := by rfl) : SE X W (.Call (.Attribute o mn apos) (e :: es) [] pos) (eMeth cn mn F fo fs) :=
  PE.imp (pe_methS ho cl hm G hr hb (fun σ => passAt tk σ) ha hst hpl ht) fun σ H Q h => meth_ok gC (of_decide_eq_true hl) rfl h
theorem se_meth0 {cn : Str} {pl : Sem Bool} (G : FnS X k fA fd ps F) (tk : Takes X W) (hr : Room k X.A) (gC : X.mg cn = some (.ref C)) (cl : Cls X.K C) (hm : Meth X.K C mn fA) (hb : Binds X.K fd ps []) (ho : SE X W o fo) (hl : decide (1 = ps.length) = true := by rfl)
    (ht : eval (.Call (.Attribute o mn apos) [] [] pos) X.env = (do
      let ov ← eval o X.env
      standAt apos.atName
      let (f, first) ← holding [ov] (getMethod ov mn pl)
      callWith pos f first (backTo pos (starEach [] X.env)) (backToKw pos (keywordEach [] X.env))) := by rfl) : SE X W (.Call (.Attribute o mn apos) [] [] pos) (eMeth cn mn F fo []) := by
  refine PE.imp (pe_methS0 ho cl hm G hr hb (fun σ => passAt tk σ) ht) fun σ H Q h => ?_
  obtain ⟨m, s, h, R0, rs, p⟩ := h
  refine ⟨m, s, h, R0, rs, PostE.mono (PostE.bind p) ?_⟩
  rintro x H1 ⟨m1, dx, h1, g1, R1, rx, p1⟩
  try dsimp only at p1
  split at p1
  · split at p1
    · rename_i n _ c' fl hk
      split at p1
      · rename_i hc
        obtain ⟨hc, hl2⟩ := hc
        subst hc
        obtain ⟨a, rfl, hm⟩ := rx.ref_inv
        obtain ⟨C', dx', fv, q0, q1, q2⟩ := R1.ob _ _ _ hm hk
        rw [gC] at q0
        cases q0
        exact ⟨a, dx', fv, rfl, q1, (RepF.look q2).2 hl2, of_decide_eq_true hl, m1, [.ref n], h1, R1, .cons (.ref hm) .nil, p1⟩
      · exact False.elim p1
    · exact False.elim p1
  · exact False.elim p1
/-- self.f = e -/
def gFld (c f : Str) (fo fe : FE) : FS := fun s h => match fe s h with
  | .ok y h1 => (match fo s h1 with
    | .ok (.ref n) h2 => match h2[n]? with
      | some (.ins c' fl) => if c' = c ∧ fl.length < 900 ∧ fl.lookup f = none then .nx s (h2.set n (.ins c (fl ++ [(f, y)]))) else .bad
      | _ => .bad
    | .ok _ _ => .bad
    | .exc x fs h2 => .exc x fs s h2
    | .bad => .bad)
  | .exc x fs h2 => .exc x fs s h2
  | .bad => .bad
end
end Sh

set_option Elab.async false
set_option linter.all false
set_option maxRecDepth 100000
set_option maxHeartbeats 4000000
namespace Sh
open PySem L2 PyProof.Rows
/-! ### results of expressions in statements -/
def RD.st (r : RD) (s : DS) (k : D → Hm → RT) : RT := match r with
  | .ok d h => k d h
  | .exc c fs h => .exc c fs s h
  | .bad => .bad
@[simp] theorem RD.st_ok (d : D) (h : Hm) (s : DS) (k : D → Hm → RT) : (RD.ok d h).st s k = k d h := rfl
@[simp] theorem RD.st_exc (c fs) (h : Hm) (s : DS) (k : D → Hm → RT) : (RD.exc c fs h).st s k = .exc c fs s h := rfl
@[simp] theorem RD.st_bad (s : DS) (k : D → Hm → RT) : RD.bad.st s k = .bad := rfl
section
variable {K : PySem.W.Frag} {mg : Str → Option Value} {W : WX} {m m1 : List Addr} {H H1 : Hp} {r : RD}
theorem PostS.ofE {s : DS} {σ : L2.St} {k : D → Hm → RT} {E : Ends} (rs : RS K m H σ s) (p : PostS K mg W m H (r.st s k) E) :
    PostE K mg (fun c d H' => W c d σ H') m H r (Got K mg m H fun m' H' d h' => PostS K mg W m' H' (k d h') E) := by
  cases r with
  | ok d h => exact fun m' H' v g' r' rep => ⟨m', d, h, g', r', rep, PostS.grow p g'⟩
  | exc c fs h => exact fun m' H' cls dx g r' x => p m' H' σ cls dx g r' (rs.grow g) x
  | bad => exact p
end
def gSeq (a b : FS) : FS := fun s h => match a s h with
  | .nx s' h' => b s' h'
  | r => r
def gNext : FS := fun s h => .nx s h
def gDrop (f : FE) : FS := fun s h => (f s h).st s fun _ h1 => .nx s h1
def gRet (f : FE) : FS := fun s h => (f s h).st s fun d h1 => .rt d h1
def gRetN : FS := fun _ h => .rt .non h
def gSet (i : Nat) (f : FE) : FS := fun s h => (f s h).st s fun d h1 => .nx (s.set i (some d)) h1
def gIf (c : FE) (a b : FS) : FS := fun s h => (c s h).st s fun d h1 => match d with
  | .bl true => a s h1
  | .bl false => b s h1
  | _ => .bad
def gBad : FS := fun _ _ => .bad
def gCont : FS := fun s h => .ct s h
def gBreak : FS := fun s h => .bk s h
section
variable {X : Cx} {W : WX} {e a b c o : Expr} {f fa fb fc fo : FE} {pos apos cpos : Pos} {st : Stmt} {sts rest : List Stmt} {g g1 g2 : FS}
theorem sss_nil : SSs X W [] gNext := PSs.imp pss_nil fun D σ H ⟨m, s, h, R0, rs, p⟩ => p m H σ (Grow.refl _ _) R0 rs
theorem sss_cons (h1 : SS X W st g1) (h2 : SSs X W rest g2) : SSs X W (st :: rest) (gSeq g1 g2) := by
  refine PSs.imp (pss_cons h1 h2) fun D σ H h => ?_
  obtain ⟨m, s, h, R0, rs, p⟩ := h
  refine ⟨m, s, h, R0, rs, ?_⟩
  unfold gSeq at p
  generalize g1 s h = r at p
  cases r with
  | nx s1 h1 => exact fun m' H' σ' g r' rs' => ⟨m', s1, h1, r', rs', PostS.grow p g⟩
  | bk s h => exact p
  | ct s h => exact p
  | rt d h => exact p
  | exc c fs s h => exact p
  | bad => exact p
theorem sss_one (h1 : SS X W st g1) : SSs X W [st] g1 := pss_one h1
theorem ss_pass : SS X W (.Pass pos) gNext := PS.imp ps_pass fun D σ H ⟨m, s, h, R0, rs, p⟩ => p m H σ (Grow.refl _ _) R0 rs
theorem ss_cont : SS X W (.Continue pos) gCont := PS.imp ps_continue fun D σ H ⟨m, s, h, R0, rs, p⟩ => p m H σ (Grow.refl _ _) R0 rs
theorem ss_break : SS X W (.Break pos) gBreak := PS.imp ps_break fun D σ H ⟨m, s, h, R0, rs, p⟩ => p m H σ (Grow.refl _ _) R0 rs
theorem ss_bad : SS X W st gBad := PS.imp ps_never fun D σ H ⟨m, s, h, R0, rs, p⟩ => p
theorem ss_expr (he : SE X W e f) (hs : swapsWith e none pos.line X.env = pure false := by rfl) : SS X W (.Expr e pos) (gDrop f) := by
  refine PS.imp (ps_expr he hs) fun D σ H h => ?_
  obtain ⟨m, s, h, R0, rs, p⟩ := h
  refine ⟨m, s, h, R0, rs, PostE.mono (PostS.ofE rs p) ?_⟩
  rintro x H1 ⟨m1, dx, h1, g1, R1, rx, p1⟩
  exact p1 m1 H1 σ (Grow.refl _ _) R1 (rs.grow g1)
theorem ss_ret (he : SE X W e f) : SS X W (.Return (some e) pos) (gRet f) := by
  refine PS.imp (ps_ret he) fun D σ H h => ?_
  obtain ⟨m, s, h, R0, rs, p⟩ := h
  refine ⟨m, s, h, R0, rs, PostE.mono (PostS.ofE rs p) ?_⟩
  rintro x H1 ⟨m1, dx, h1, g1, R1, rx, p1⟩
  exact p1 m1 H1 x (Grow.refl _ _) R1 rx
theorem ss_retN : SS X W (.Return none pos) gRetN := PS.imp ps_retN fun D σ H ⟨m, s, h, R0, rs, p⟩ => p m H .non (Grow.refl _ _) R0 .non
theorem ss_set {i : Nat} {x : Str} {pos' : Pos} (hN : X.N.Nodup) (hi : X.N[i]? = some x) (hx : Loc X.env.scope x) (he : SE X W e f) (hs : swapsWith e (some (.Name x pos')) pos.line X.env = pure false := by rfl) (hf : X.fn x = true ∨ X.env.scope.names.lookup x = some .local := by first | exact .inl rfl | exact .inr rfl) :
    SS X W (.Assign [.Name x pos'] e pos) (gSet i f) := by
  refine PS.imp (ps_set hN hi hx he hs hf) fun D σ H h => ?_
  obtain ⟨m, s, h, R0, rs, p⟩ := h
  refine ⟨m, s, h, R0, rs, PostE.mono (PostS.ofE rs p) ?_⟩
  rintro x H1 ⟨m1, dx, h1, g1, R1, rx, p1⟩
  exact p1 m1 H1 _ (Grow.refl _ _) R1 ((rs.grow g1).set i rx)
theorem ss_if {c : Expr} {a b : List Stmt} {fc : FE} (hc : ST X W c fc) (ha : SSs X W a g1) (hb : SSs X W b g2) : SS X W (.If c a b pos) (gIf fc g1 g2) := by
  refine PS.imp (ps_if hc ha hb) fun D σ H h => ?_
  obtain ⟨m, s, h, R0, rs, p⟩ := h
  refine ⟨m, s, h, R0, rs, ?_⟩
  unfold gIf at p
  generalize fc s h = r at p
  cases r with
  | ok d h1 =>
    cases d with
    | bl c =>
      intro m' H' g r'
      cases c with
      | true => exact iteT ⟨m', s, h1, r', rs.grow g, PostS.grow p g⟩
      | false => exact iteF ⟨m', s, h1, r', rs.grow g, PostS.grow p g⟩
    | _ => exact p
  | exc c fs h1 => exact fun m' H' cls dx g r' x => p m' H' σ cls dx g r' (rs.grow g) x
  | bad => exact p
/-- self.f = e -/
def putD (f : Str) (y : D) : List (Str × D) → List (Str × D)
  | [] => [(f, y)]
  | (k, v) :: r => if k = f then (k, y) :: r else (k, v) :: putD f y r
theorem putD_rep {K : PySem.W.Frag} {m : List Addr} {H : Hp} {f : Str} {y : V} {d : D} (r : Rep K m H y d) : ∀ {fv : List (Str × V)} {fs : List (Str × D)}, RepF K m H fv fs → RepF K m H (putF f y fv) (putD f d fs)
  | _, _, .nil => .cons ⟨rfl, r⟩ .nil
  | (k, v) :: fv, (k', d') :: fs, .cons q t => by
    obtain ⟨e1, q⟩ := q
    simp only at e1
    subst e1
    show RepF K m H (if k = f then (k, y) :: fv else (k, v) :: putF f y fv) (if k = f then (k, d) :: fs else (k, d') :: putD f d fs)
    by_cases e : k = f
    · rw [if_pos e, if_pos e]
      exact .cons ⟨rfl, r⟩ t
    · rw [if_neg e, if_neg e]
      exact .cons ⟨rfl, q⟩ (putD_rep r t)
def gPut (c f : Str) (fo fe : FE) : FS := fun s h => (fe s h).st s fun y h1 => (fo s h1).st s fun d h2 => match d with
  | .ref n => match h2[n]? with
    | some (.ins c' fl) => if c' = c ∧ fl.length < 900 then .nx s (h2.set n (.ins c (putD f y fl))) else .bad
    | _ => .bad
  | _ => .bad
theorem RepF.len {K : PySem.W.Frag} {m : List Addr} {H : Hp} {fv : List (Str × V)} {fs : List (Str × D)} (r : RepF K m H fv fs) : fv.length = fs.length := Paired.length r
theorem ss_put {cn f : Str} {C : Addr} {pos' : Pos} (gC : X.mg cn = some (.ref C)) (cl : Cls X.K C) (na : NoAttr X.K C f) (ho : SE X W o fo) (he : SE X W e fa) (hs : swapsWith e (some (.Attribute o f pos')) pos.line X.env = pure false := by rfl) :
    SS X W (.Assign [.Attribute o f pos'] e pos) (gPut cn f fo fa) := by
  refine PS.imp (ps_fld ho he hs) fun D σ H h => ?_
  obtain ⟨m, s, h, R0, rs, p⟩ := h
  refine ⟨m, s, h, R0, rs, PostE.mono (PostS.ofE rs p) ?_⟩
  rintro y H1 ⟨m1, dy, h1, g1, R1, ry, p1⟩
  refine ⟨m1, s, h1, R1, rs.grow g1, PostE.mono (PostS.ofE (rs.grow g1) p1) ?_⟩
  rintro x H2 ⟨m2, dx, h2, g2, R2, rx, p2⟩
  try dsimp only at p2
  split at p2
  · split at p2
    · rename_i n _ c' fl hk
      split at p2
      · rename_i hc
        obtain ⟨hc, hl⟩ := hc
        subst hc
        obtain ⟨a, rfl, hm⟩ := rx.ref_inv
        have xo := R2.ob _ _ _ hm hk
        obtain ⟨C', dx', fv, q0, q1, q2⟩ := id xo
        rw [gC] at q0
        cases q0
        refine ⟨a, C, dx', fv, rfl, q1, cl, na, by rw [q2.len]; omega, ?_⟩
        have g3 : Grow m2 H2 m2 (upd H2 a (.ins C dx' (putF f y fv))) := Grow.set xo rfl
        exact p2 m2 _ σ g3 (R2.set hm hk rfl ⟨C, dx', putF f y fv, gC, upd_same, putD_rep ((ry.grow g2).grow g3) (q2.grow g3)⟩) ((rs.grow (g1.trans g2)).grow g3)
      · exact False.elim p2
    · exact False.elim p2
  · exact False.elim p2

/-! ### targets -/
/-- as Rep, or a tuple whose object is not known (the pairs of enumerate) -/
def RepQ (wk : Bool) (K : PySem.W.Frag) (m : List Addr) (H : Hp) (v : V) (d : D) : Prop := Rep K m H v d ∨ (wk = true ∧ ∃ a vs ds, v = .ref a ∧ SqT K H a vs ∧ RepL K m H vs ds ∧ d = .tup ds)
abbrev GT := D → DS → Hm → RT
/-- behind a store: the slots at vs alone may have changed -/
def PostG (K : PySem.W.Frag) (mg : Str → Option Value) (vs : List Nat) (σ : L2.St) (m : List Addr) (H : Hp) (r : RT) (Q : L2.St → Hp → Prop) : Prop := match r with
  | .nx s' h' => ∀ m' H' σ', Grow m H m' H' → R K mg m' H' h' → RS K m' H' σ' s' → (∀ l, (∀ i ∈ vs, i ∈ l) → wipe σ' l = wipe σ l) → Q σ' H'
  | _ => False
def tSG (K : PySem.W.Frag) (mg : Str → Option Value) (wk : Bool) (vs : List Nat) (gt : GT) : TG := fun v σ H Q => ∃ m s h d, R K mg m H h ∧ RS K m H σ s ∧ RepQ wk K m H v d ∧ PostG K mg vs σ m H (gt d s h) Q
def SG (X : Cx) (wk : Bool) (tg : Expr) (vs : List Nat) (gt : GT) : Prop := PG X tg (tSG X.K X.mg wk vs gt)
def gAll : List GT → List D → DS → Hm → RT
  | [], [], s, h => .nx s h
  | g :: gs, d :: ds, s, h => match g d s h with
    | .nx s' h' => gAll gs ds s' h'
    | _ => .bad
  | _, _, _, _ => .bad
def tSGs (K : PySem.W.Frag) (mg : Str → Option Value) (vs : List Nat) (gts : List GT) : TGs := fun xs σ H Q => ∃ m s h ds, R K mg m H h ∧ RS K m H σ s ∧ RepL K m H xs ds ∧ PostG K mg vs σ m H (gAll gts ds s h) Q
def SGs (X : Cx) (tgs : List Expr) (vs : List Nat) (gts : List GT) : Prop := PGs X tgs (tSGs X.K X.mg vs gts)
theorem PG.imp {X : Cx} {e : Expr} {t t' : TG} (h : PG X e t) (k : ∀ v σ H Q, t' v σ H Q → t v σ H Q) : PG X e t' := ⟨fun pins s σ H v u Q I r q => h.run pins s σ H v u Q I r (k _ _ _ _ q)⟩
theorem PGs.imp {X : Cx} {e : List Expr} {t t' : TGs} (h : PGs X e t) (k : ∀ v σ H Q, t' v σ H Q → t v σ H Q) : PGs X e t' := ⟨fun pins s σ H v u Q I r q => h.run pins s σ H v u Q I r (k _ _ _ _ q)⟩
theorem wipe_get {σ : L2.St} : ∀ {l : List Nat} {j : Nat}, (wipe σ l)[j]? = if j ∈ l then (if j < σ.length then some none else none) else σ[j]?
  | [], j => by simp [wipe]
  | v :: l, j => by
    unfold wipe
    by_cases e : v = j
    · subst e
      rw [if_pos List.mem_cons_self]
      by_cases hl : v < σ.length
      · rw [if_pos hl, List.getElem?_set_self (by rw [wipe_length]; exact hl)]
      · rw [if_neg hl, List.getElem?_eq_none (by rw [List.length_set, wipe_length]; omega)]
    · rw [List.getElem?_set_ne e, wipe_get]
      by_cases hj : j ∈ l
      · rw [if_pos hj, if_pos (List.mem_cons_of_mem _ hj)]
      · rw [if_neg hj, if_neg (by simp only [List.mem_cons, not_or]; exact ⟨fun z => e z.symm, hj⟩)]
theorem wipe_set {σ : L2.St} {l : List Nat} {i : Nat} {v : Option V} (hi : i ∈ l) : wipe (σ.set i v) l = wipe σ l := by
  apply List.ext_getElem?
  intro j
  rw [wipe_get, wipe_get, List.length_set]
  by_cases hj : j ∈ l
  · rw [if_pos hj, if_pos hj]
  · rw [if_neg hj, if_neg hj]
    have : i ≠ j := fun z => hj (z ▸ hi)
    rw [List.getElem?_set_ne this]
theorem wipe_wipe {σ : L2.St} {l : List Nat} : wipe (wipe σ l) l = wipe σ l := by
  apply List.ext_getElem?
  intro j
  rw [wipe_get, wipe_get, wipe_length]
  by_cases hj : j ∈ l
  · rw [if_pos hj, if_pos hj]
  · rw [if_neg hj, if_neg hj]
def tName (i : Nat) : GT := fun d s h => .nx (s.set i (some d)) h
theorem sg_name {i : Nat} {x : Str} (hN : X.N.Nodup) (hi : X.N[i]? = some x) (hx : Loc X.env.scope x) (hf : X.fn x = true ∨ X.env.scope.names.lookup x = some .local := by first | exact .inl rfl | exact .inr rfl) : SG X false (.Name x pos) [i] (tName i) := by
  refine PG.imp (pg_name hN hi hx hf) fun v σ H Q h => ?_
  obtain ⟨m, s, h, d, R0, rs, rep, p⟩ := h
  have rep' : Rep X.K m H v d := by
    rcases rep with r | ⟨z, _⟩
    · exact r
    · cases z
  exact p m H _ (Grow.refl _ _) R0 (rs.set i rep') fun l hl => wipe_set (hl i (by simp))
theorem sgs_nil : SGs X [] [] [] := by
  refine PGs.imp pgs_nil fun v σ H Q h => ?_
  obtain ⟨m, s, h, ds, R0, rs, rep, p⟩ := h
  cases rep with
  | nil => exact ⟨rfl, p m H σ (Grow.refl _ _) R0 rs fun _ _ => rfl⟩
  | cons r t => exact False.elim p
theorem sgs_cons {es : List Expr} {vs ws : List Nat} {gt : GT} {gts : List GT} (h1 : SG X false e vs gt) (h2 : SGs X es ws gts) (hs : (assignEach (e :: es) X.env).map (·.2) = assign e X.env :: (assignEach es X.env).map (·.2) := by rfl) : SGs X (e :: es) (vs ++ ws) (gt :: gts) := by
  refine PGs.imp (pgs_cons h1 h2 hs) fun v σ H Q h => ?_
  obtain ⟨m, s, h, ds, R0, rs, rep, p⟩ := h
  cases rep with
  | nil => exact False.elim p
  | @cons v d xs ds r t =>
    refine ⟨v, xs, rfl, m, s, h, d, R0, rs, .inl r, ?_⟩
    unfold gAll at p
    generalize gt d s h = q at p
    cases q with
    | nx s1 h1 =>
      intro m1 H1 σ1 g1 R1 rs1 hw
      refine ⟨m1, s1, h1, ds, R1, rs1, t.grow g1, ?_⟩
      have p' : PostG X.K X.mg (vs ++ ws) σ m H (gAll gts ds s1 h1) Q := p
      generalize gAll gts ds s1 h1 = q2 at p'
      cases q2 with
      | nx s2 h2 => exact fun m2 H2 σ2 g2 R2 rs2 hw2 => p' m2 H2 σ2 (g1.trans g2) R2 rs2 fun l hl =>
          (hw2 l fun i hi => hl i (List.mem_append_right _ hi)).trans (hw l fun i hi => hl i (List.mem_append_left _ hi))
      | _ => exact p'
    | _ => exact p
def tTup (gts : List GT) : GT := fun d s h => match d with
  | .tup ds => gAll gts ds s h
  | .ref k => match h[k]? with
    | some (.lst ds) => gAll gts ds s h
    | _ => .bad
  | _ => .bad
theorem gAll_len : ∀ {gts : List GT} {ds : List D} {s s' : DS} {h h' : Hm}, gAll gts ds s h = .nx s' h' → ds.length = gts.length
  | [], [], _, _, _, _, _ => rfl
  | [], _ :: _, _, _, _, _, e => by simp [gAll] at e
  | _ :: _, [], _, _, _, _, e => by simp [gAll] at e
  | g :: gs, d :: ds, s, s', h, h', e => by
    unfold gAll at e
    split at e
    · simp [gAll_len e]
    · cases e
theorem sg_tup {es : List Expr} {k : Nat} {vs : List Nat} {gts : List GT} {wk : Bool} (hc : X.calm = true) (h : SGs X es vs gts) (hn : (assignEach es X.env).length = gts.length := by rfl) (hst : (assignEach es X.env).findIdx? (·.1) = none := by rfl) :
    SG X wk (.Tuple es k pos) vs (tTup gts) := by
  have both : PG X (.Tuple es k pos) (fun v σ H Q => gTup X.K gts.length (tSGs X.K X.mg vs gts) v σ H Q ∨ gLst X.K gts.length (tSGs X.K X.mg vs gts) v σ H Q) := by
    refine ⟨fun pins s σ H v u Q I r q => ?_⟩
    rcases q with q | q
    · exact (pg_tup hc h hn hst).run pins s σ H v u Q I r q
    · exact (pg_lst hc h hn hst).run pins s σ H v u Q I r q
  refine PG.imp both fun v σ H Q h => ?_
  obtain ⟨m, s, h, d, R0, rs, rep, p⟩ := h
  have one : ∀ {a : Addr} {us : List V} {ds : List D}, SqT X.K H a us → RepL X.K m H us ds → PostG X.K X.mg vs σ m H (gAll gts ds s h) Q → gTup X.K gts.length (tSGs X.K X.mg vs gts) (.ref a) σ H Q := by
    intro a us ds t l p
    refine ⟨a, us, rfl, t, ?_, m, s, h, ds, R0, rs, l, p⟩
    rw [l.length]
    generalize q : gAll gts ds s h = r at p
    cases r with
    | nx s1 h1 => exact gAll_len q
    | _ => exact False.elim p
  rcases rep with r | ⟨_, a, us, ds, rfl, t, l, rfl⟩
  · unfold tTup at p
    split at p
    · obtain ⟨a, us, rfl, t, l⟩ := r.tup_inv
      exact .inl (one t.sqT l p)
    · split at p
      · rename_i kk _ ds hk
        obtain ⟨a, rfl, hm⟩ := r.ref_inv
        obtain ⟨us, q1, q2⟩ := R0.ob _ _ _ hm hk
        refine .inr ⟨a, us, rfl, .inl (.inl q1), ?_, m, s, h, ds, R0, rs, q2, p⟩
        rw [q2.length]
        generalize q : gAll gts ds s h = r at p
        cases r with
        | nx s1 h1 => exact gAll_len q
        | _ => exact False.elim p
      · exact False.elim p
    · exact False.elim p
  · exact .inl (one t l p)
/-- target = e -/
def gAsg (f : FE) (gt : GT) : FS := fun s h => (f s h).st s fun d h1 => match gt d s h1 with
  | .nx s2 h2 => .nx s2 h2
  | _ => .bad
theorem ss_asg {tg : Expr} {vs : List Nat} {gt : GT} (he : SE X W e f) (hg : SG X false tg vs gt) (hs : swapsWithSole [tg] e pos.line X.env = pure false := by rfl) (hw : swappedStores [tg] e X.env = pure none := by rfl)
    (h1 : (assignEach [tg] X.env).map (·.2) = [assign tg X.env] := by rfl) : SS X W (.Assign [tg] e pos) (gAsg f gt) := by
  refine PS.imp (ps_asg he hg hs hw h1) fun D σ H h => ?_
  obtain ⟨m, s, h, R0, rs, p⟩ := h
  refine ⟨m, s, h, R0, rs, PostE.mono (PostS.ofE rs p) ?_⟩
  rintro x H1 ⟨m1, dx, h1, g1, R1, rx, p1⟩
  refine ⟨m1, s, h1, dx, R1, rs.grow g1, .inl rx, ?_⟩
  try dsimp only at p1
  generalize gt dx s h1 = r at p1
  cases r with
  | nx s2 h2 => exact fun m2 H2 σ2 g2 R2 rs2 _ => p1 m2 H2 σ2 g2 R2 rs2
  | _ => exact p1
end
end Sh

set_option Elab.async false
set_option linter.all false
set_option maxRecDepth 100000
set_option maxHeartbeats 4000000
namespace Sh
open PySem L2 PyProof.Rows
/-! ### what is walked -/
inductive RI where
  | ok (xs : List D) (ck : Option (Nat × List D)) (h : Hm) | exc (c : Str) (fs : List (Str × D)) (h : Hm) | bad
abbrev FI := DS → Hm → RI
/-- a list that is walked is to stay as it is -/
def chkB (ck : Option (Nat × List D)) (h : Hm) : Bool := match ck with
  | none => true
  | some (n, xs) => match items h (.ref n) with
    | some ys => D.beqL ys xs
    | none => false
theorem chkB_ok {n : Nat} {xs : List D} {h : Hm} (e : chkB (some (n, xs)) h = true) : items h (.ref n) = some xs := by
  unfold chkB at e
  dsimp only at e
  split at e
  · rename_i ys hy
    rw [hy, D.beqL_eq _ _ e]
  · cases e
def WalkD (K : PySem.W.Frag) (mg : Str → Option Value) (wk : Bool) (J : It) (xs : List D) (ck : Option (Nat × List D)) (m0 : List Addr) (H0 : Hp) : Prop :=
  ∀ i m H h, Grow m0 H0 m H → R K mg m H h → chkB ck h = true →
    (∀ x, xs[i]? = some x → J.go i H ∧ ∀ v H', J.yld i H v H' → Grow m H m H' ∧ R K mg m H' h ∧ RepQ wk K m H' v x) ∧ (xs.length ≤ i → J.stop i H)
def PostI (K : PySem.W.Frag) (mg : Str → Option Value) (wk : Bool) (W : XK) (m : List Addr) (H : Hp) (r : RI) (Q : It → Hp → Prop) : Prop := match r with
  | .ok xs ck h' => ∀ m' H' J, Grow m H m' H' → R K mg m' H' h' → WalkD K mg wk J xs ck m' H' → Q J H'
  | .exc c fs h' => ∀ m' H' cls dx, Grow m H m' H' → R K mg m' H' h' → ExcAt K mg m' H' cls dx c fs → W cls dx H'
  | .bad => False
def tSI (K : PySem.W.Frag) (mg : Str → Option Value) (W : WX) (wk : Bool) (fi : FI) : TI := fun σ H Q => ∃ m s h, R K mg m H h ∧ RS K m H σ s ∧ PostI K mg wk (fun c d H' => W c d σ H') m H (fi s h) Q
def SI (X : Cx) (W : WX) (wk : Bool) (tg iter : Expr) (fi : FI) : Prop := PI X tg iter (tSI X.K X.mg W wk fi)
theorem PI.imp {X : Cx} {tg e : Expr} {t t' : TI} (h : PI X tg e t) (k : ∀ σ H Q, t' σ H Q → t σ H Q) : PI X tg e t' := ⟨fun pins s σ H Q I q => h.run pins s σ H Q I (k _ _ _ q)⟩
def RD.it (r : RD) (k : D → Hm → RI) : RI := match r with
  | .ok d h => k d h
  | .exc c fs h => .exc c fs h
  | .bad => .bad
section
variable {X : Cx} {W : WX} {tg e a b o : Expr} {f fa fb fo : FE} {pos : Pos}
theorem PostI.ofE {K : PySem.W.Frag} {mg : Str → Option Value} {wk : Bool} {W : XK} {m : List Addr} {H : Hp} {r : RD} {k : D → Hm → RI} {Q : It → Hp → Prop} (p : PostI K mg wk W m H (r.it k) Q) :
    PostE K mg W m H r (Got K mg m H fun m' H' d h' => PostI K mg wk W m' H' (k d h') Q) := by
  cases r with
  | ok d h =>
    intro m' H' v g' r' rep
    refine ⟨m', d, h, g', r', rep, ?_⟩
    have p' : PostI K mg wk W m H (k d h) Q := p
    show PostI K mg wk W m' H' (k d h) Q
    generalize k d h = q at p'
    cases q with
    | ok xs ck h2 => exact fun m2 H2 J g2 => p' m2 H2 J (g'.trans g2)
    | exc c fs h2 => exact fun m2 H2 c d g2 => p' m2 H2 c d (g'.trans g2)
    | bad => exact p'
  | exc c fs h => exact p
  | bad => exact p
/-- a list or a tuple -/
theorem pi_seq {tl : TE} (hl : PE X e tl) : PI X tg e (fun σ H R => tl σ H fun x H1 => ∃ a, x = .ref a ∧ (((∃ xs, SqL X.K H1 a xs) ∧ R (Itl X.K a) H1) ∨ ((∃ xs, SqT X.K H1 a xs) ∧ R (Itt X.K a) H1))) := by
  refine ⟨fun pins s σ H R I h => ?_⟩
  refine thn (hl.run pins s σ H _ I h) fun v s1 ⟨x, H1, I1, r1, q1⟩ => ?_
  obtain ⟨a, e, q1⟩ := q1
  subst e
  cases r1
  rcases q1 with ⟨⟨xs, hq⟩, q⟩ | ⟨⟨xs, hq⟩, q⟩
  · obtain ⟨its, rv, p, hz⟩ := I1.list hq
    refine wpAny_pyIter_list p.isList ?_
    refine ⟨s1.heap.objs.size, [s1.heap.objs.size], _, _, H1, rfl, I1.kept (t' := s1.toks) fun b o e => Heap.get?_push_of_some _ e, turn_list a _, ⟨_, Heap.get?_push_size _ rfl, rfl, rfl⟩, fun b hb => ?_, q⟩
    have e : b = s1.heap.objs.size := by simpa using hb
    subst e
    exact I1.fpOk (Nat.le_refl _) (I1.hok.fresh (Nat.le_refl _))
  · obtain ⟨its, rv, p, hz⟩ := I1.tuple hq
    refine wpAny_pyIter_tuple (show s1.heap.IsTuple a its.toArray from p) ?_
    refine ⟨s1.heap.objs.size, [s1.heap.objs.size], _, _, H1, rfl, I1.kept (t' := s1.toks) fun b o e => Heap.get?_push_of_some _ e, turn_tuple a _, ⟨_, Heap.get?_push_size _ rfl, rfl, rfl⟩, fun b hb => ?_, q⟩
    have e : b = s1.heap.objs.size := by simpa using hb
    subst e
    exact I1.fpOk (Nat.le_refl _) (I1.hok.fresh (Nat.le_refl _))
/-- the items, and what is to stay as it is -/
def iSeq (d : D) (h : Hm) : RI := match d with
  | .tup ds => .ok ds none h
  | .scl ds => .ok ds none h
  | .ref n => match items h (.ref n) with
    | some ds => .ok ds (some (n, ds)) h
    | none => .bad
  | _ => .bad
def fiSeq (f : FE) : FI := fun s h => (f s h).it iSeq
theorem items_ref {K : PySem.W.Frag} {mg : Str → Option Value} {m : List Addr} {H : Hp} {h : Hm} {n : Nat} {a : Addr} {ds : List D} (r : R K mg m H h) (hm : m[n]? = some a) (e : items h (.ref n) = some ds) : ∃ vs, SqL K H a vs ∧ RepL K m H vs ds := by
  unfold items at e
  simp only at e
  split at e
  · rename_i es hk
    cases e
    exact ObjR.sqL (.inl (r.ob _ _ _ hm hk))
  · rename_i es hk
    cases e
    exact ObjR.sqL (.inr (r.ob _ _ _ hm hk))
  · cases e
theorem walk_list {K : PySem.W.Frag} {mg : Str → Option Value} {m : List Addr} {H : Hp} {n : Nat} {a : Addr} {ds : List D} {wk : Bool} (hm : m[n]? = some a) : WalkD K mg wk (Itl K a) ds (some (n, ds)) m H := by
  intro i m' H' h g r hc
  obtain ⟨vs, hq, l⟩ := items_ref r (g.loc _ _ hm) (chkB_ok hc)
  refine ⟨fun x hx => ?_, fun hle => ⟨vs, hq, by rw [l.length]; exact hle⟩⟩
  obtain ⟨v, hv, rv⟩ := l.get hx
  refine ⟨⟨vs, v, hq, hv⟩, fun v' H2 hy => ?_⟩
  obtain ⟨rfl, hy⟩ := hy
  have e := hy vs hq
  rw [hv] at e
  cases e
  exact ⟨Grow.refl _ _, r, .inl rv⟩
theorem walk_tup {K : PySem.W.Frag} {mg : Str → Option Value} {m : List Addr} {H : Hp} {a : Addr} {ds : List D} {vs : List V} {wk : Bool} (ht : TupS K H a vs) (l : RepL K m H vs ds) : WalkD K mg wk (Itt K a) ds none m H := by
  intro i m' H' h g r hc
  have hq := (g.tupS ht).sqT
  replace l := l.grow g
  refine ⟨fun x hx => ?_, fun hle => ⟨vs, hq, by rw [l.length]; exact hle⟩⟩
  obtain ⟨v, hv, rv⟩ := l.get hx
  refine ⟨⟨vs, v, hq, hv⟩, fun v' H2 hy => ?_⟩
  obtain ⟨rfl, hy⟩ := hy
  have e := hy vs hq
  rw [hv] at e
  cases e
  exact ⟨Grow.refl _ _, r, .inl rv⟩
theorem walk_scl {K : PySem.W.Frag} {mg : Str → Option Value} {m : List Addr} {H : Hp} {a : Addr} {ds : List D} {vs : List V} {wk : Bool} (ht : SclS K H a vs) (l : RepL K m H vs ds) : WalkD K mg wk (Itl K a) ds none m H := by
  intro i m' H' h g r hc
  have hq := (g.sclS ht).sqL
  replace l := l.grow g
  refine ⟨fun x hx => ?_, fun hle => ⟨vs, hq, by rw [l.length]; exact hle⟩⟩
  obtain ⟨v, hv, rv⟩ := l.get hx
  refine ⟨⟨vs, v, hq, hv⟩, fun v' H2 hy => ?_⟩
  obtain ⟨rfl, hy⟩ := hy
  have e := hy vs hq
  rw [hv] at e
  cases e
  exact ⟨Grow.refl _ _, r, .inl rv⟩
theorem rgD_length (a b : Int) : (rgD a b).length = (b - a).toNat := by unfold rgD; rw [List.length_map, List.length_range]
theorem rgD_get {a b : Int} {i : Nat} {x : D} (e : (rgD a b)[i]? = some x) : i < (b - a).toNat ∧ x = .int (a + (i : Nat)) := by
  have hl := (List.getElem?_eq_some_iff.mp e).1
  rw [rgD_length] at hl
  unfold rgD at e
  rw [List.getElem?_map, List.getElem?_range hl] at e
  cases e
  exact ⟨hl, rfl⟩
theorem walk_rg {K : PySem.W.Frag} {mg : Str → Option Value} {m : List Addr} {H : Hp} {a b : Int} {wk : Bool} : WalkD K mg wk (Itr a (b - a).toNat) (rgD a b) none m H := by
  intro i m' H' h g r hc
  refine ⟨fun x hx => ?_, fun hle => by rw [rgD_length] at hle; exact hle⟩
  obtain ⟨h1, rfl⟩ := rgD_get hx
  refine ⟨h1, fun v' H2 hy => ?_⟩
  obtain ⟨rfl, rfl⟩ := hy
  exact ⟨Grow.refl _ _, r, .inl (.int _)⟩
theorem si_seq (he : SE X W e f) : SI X W false tg e (fiSeq f) := by
  refine PI.imp (pi_seq he) fun σ H Q h => ?_
  obtain ⟨m, s, h, R0, rs, p⟩ := h
  refine ⟨m, s, h, R0, rs, PostE.mono (PostI.ofE p) ?_⟩
  rintro x H1 ⟨m1, dx, h1, g1, R1, rx, p1⟩
  unfold iSeq at p1
  split at p1
  · obtain ⟨a, vs, rfl, t, l⟩ := rx.tup_inv
    exact ⟨a, rfl, .inr ⟨⟨vs, t.sqT⟩, p1 m1 H1 _ (Grow.refl _ _) R1 (walk_tup t l)⟩⟩
  · obtain ⟨a, vs, rfl, t, l⟩ := rx.scl_inv
    exact ⟨a, rfl, .inl ⟨⟨vs, t.sqL⟩, p1 m1 H1 _ (Grow.refl _ _) R1 (walk_scl t l)⟩⟩
  · split at p1
    · rename_i ds hi
      obtain ⟨a, rfl, hm⟩ := rx.ref_inv
      obtain ⟨vs, hq, l⟩ := items_ref R1 hm hi
      exact ⟨a, rfl, .inl ⟨⟨vs, hq⟩, p1 m1 H1 _ (Grow.refl _ _) R1 (walk_list hm)⟩⟩
    · exact False.elim p1
  · exact False.elim p1
/-- range(b), range(a, b) -/
def iRg (ds : List D) (h : Hm) : RI := match ds with
  | [.int j] => if -(2 ^ 62) ≤ j ∧ j < 2 ^ 62 then .ok (rgD 0 j) none h else .bad
  | [.int i, .int j] => if -(2 ^ 62) ≤ i ∧ i < 2 ^ 62 ∧ -(2 ^ 62) ≤ j ∧ j < 2 ^ 62 then .ok (rgD i j) none h else .bad
  | _ => .bad
def fiRg (fs : List FE) : FI := fun s h => match evalL fs s h with
  | .ok ds h1 => iRg ds h1
  | .exc c x h1 => .exc c x h1
  | .bad => .bad
theorem rg_ok {fs : List FE} {σ : L2.St} {H : Hp} {Q : It → Hp → Prop} {wk : Bool} {r : List V → Hp → (It → Hp → Prop) → Prop} (h : tSI X.K X.mg W wk (fiRg fs) σ H Q)
    (k : ∀ m1 H1 vs ds h1, R X.K X.mg m1 H1 h1 → RepL X.K m1 H1 vs ds → ds.length = fs.length → PostI X.K X.mg wk (fun c d H' => W c d σ H') m1 H1 (iRg ds h1) Q → r vs H1 Q) : tSA X.K X.mg W (evalL fs) σ H fun vs H1 => r vs H1 Q := by
  obtain ⟨m, s, h, R0, rs, p⟩ := h
  refine ⟨m, s, h, R0, rs, ?_⟩
  unfold fiRg at p
  generalize q : evalL fs s h = r at p
  cases r with
  | ok ds h1 =>
    intro m1 H1 vs g1 R1 rvs
    refine k m1 H1 vs ds h1 R1 rvs (evalL_length q) ?_
    try dsimp only at p
    generalize iRg ds h1 = r2 at p
    cases r2 with
    | ok xs ck h2 => exact fun m2 H2 J g2 => p m2 H2 J (g1.trans g2)
    | exc c fs h2 => exact fun m2 H2 c d g2 => p m2 H2 c d (g1.trans g2)
    | bad => exact p
  | exc c fs h1 => exact p
  | bad => exact p
theorem si_rg1 {p : Pos} (hg : Gl X "range") (hm : X.mg "range" = none) (ha : SA X W [a] (evalL [fa])) (hs : starEach [a] X.env = [(false, eval a X.env)] := by rfl) : SI X W false tg (.Call (.Name "range" p) [a] [] pos) (fiRg [fa]) := by
  refine PI.imp (pi_range1 hg hm ha hs) fun σ H Q h => rg_ok (r := fun vs H1 Q => ∃ j : Int, vs = [.int j] ∧ -(2 ^ 62) ≤ j ∧ j < 2 ^ 62 ∧ Q (Itr 0 j.toNat) H1) h fun m1 H1 vs ds h1 R1 rvs hl p => ?_
  unfold iRg at p
  split at p
  · split at p
    · rename_i j hj
      cases rvs with
      | cons r1 r2 =>
        cases r2; cases r1
        have w := walk_rg (K := X.K) (mg := X.mg) (m := m1) (H := H1) (a := 0) (b := j) (wk := false)
        rw [Int.sub_zero] at w
        exact ⟨j, rfl, hj.1, hj.2, p m1 H1 _ (Grow.refl _ _) R1 w⟩
    · exact False.elim p
  · simp at hl
  · exact False.elim p
theorem si_rg2 {p : Pos} (hg : Gl X "range") (hm : X.mg "range" = none) (ha : SA X W [a, b] (evalL [fa, fb])) (hs : starEach [a, b] X.env = [(false, eval a X.env), (false, eval b X.env)] := by rfl) (hs2 : starEach [b] X.env = [(false, eval b X.env)] := by rfl) :
    SI X W false tg (.Call (.Name "range" p) [a, b] [] pos) (fiRg [fa, fb]) := by
  refine PI.imp (pi_range2 hg hm ha hs hs2) fun σ H Q h => rg_ok (r := fun vs H1 Q => ∃ i j : Int, vs = [.int i, .int j] ∧ (-(2 ^ 62) ≤ i ∧ i < 2 ^ 62 ∧ -(2 ^ 62) ≤ j ∧ j < 2 ^ 62) ∧ Q (Itr i (j - i).toNat) H1) h fun m1 H1 vs ds h1 R1 rvs hl p => ?_
  unfold iRg at p
  split at p
  · simp at hl
  · split at p
    · rename_i i j hj
      cases rvs with
      | cons r1 r2 =>
        cases r2 with
        | cons r2 r3 =>
          cases r3; cases r1; cases r2
          exact ⟨i, j, rfl, hj, p m1 H1 _ (Grow.refl _ _) R1 walk_rg⟩
    · exact False.elim p
  · exact False.elim p

/-! ### for -/
def loopG (ck : Option (Nat × List D)) (gt : GT) (gb : FS) : List D → DS → Hm → RT
  | [], s, h => if chkB ck h = true then .nx s h else .bad
  | x :: xs, s, h => if chkB ck h = true then (match gt x s h with
    | .nx s1 h1 => (match gb s1 h1 with
      | .nx s2 h2 => loopG ck gt gb xs s2 h2
      | .ct s2 h2 => loopG ck gt gb xs s2 h2
      | .bk s2 h2 => .nx s2 h2
      | r => r)
    | _ => .bad) else .bad
def gFor (fi : FI) (gt : GT) (gb : FS) : FS := fun s h => match fi s h with
  | .ok xs ck h1 => loopG ck gt gb xs s h1
  | .exc c fs h1 => .exc c fs s h1
  | .bad => .bad
theorem ss_for {iter : Expr} {body : List Stmt} {fi : FI} {gt : GT} {gb : FS} {wk : Bool} {vs : List Nat} (hp : PassesOwn (model X.prog X.w) X.A X.env X.xe) (hc : X.calm = true) (hi : SI X W wk tg iter fi) (hg : SG X wk tg vs gt) (hb : SSs X W body gb)
    (hs : ∀ x, foldedSetIterable iter X.env x = pure x := by intro _; rfl) : SS X W (.For tg iter body [] pos) (gFor fi gt gb) := by
  refine PS.imp (ps_for hp hc hi hg hb hs) fun D σ H h => ?_
  obtain ⟨m, s, h, R0, rs, p⟩ := h
  refine ⟨m, s, h, R0, rs, ?_⟩
  unfold gFor at p
  generalize fi s h = r at p
  cases r with
  | exc c fs h1 => exact fun m' H' cls dx g r' x => p m' H' σ cls dx g r' (rs.grow g) x
  | bad => exact p
  | ok xs ck h1 =>
    intro m1 H1 J g1 R1 wd
    replace p := PostS.grow (show PostS X.K X.mg W m H (loopG ck gt gb xs s h1) D from p) g1
    refine ⟨fun i k σ H => k = xs.length - i ∧ i ≤ xs.length ∧ ∃ m s h, Grow m1 H1 m H ∧ R X.K X.mg m H h ∧ RS X.K m H σ s ∧ PostS X.K X.mg W m H (loopG ck gt gb (xs.drop i) s h) D,
      ⟨xs.length, by simp, Nat.zero_le _, m1, s, h1, Grow.refl _ _, R1, rs.grow g1, p⟩, ?_⟩
    rintro i k σ2 H2 ⟨rfl, hi, m2, s2, h2, g2, R2, rs2, p2⟩
    by_cases hlt : i < xs.length
    · rw [List.drop_eq_getElem_cons hlt] at p2
      unfold loopG at p2
      split at p2
      · rename_i hck
        obtain ⟨hgo, hyl⟩ := (wd i m2 H2 h2 g2 R2 hck).1 xs[i] (List.getElem?_eq_getElem hlt)
        refine .inr ⟨hgo, fun σ' H' => ∃ m s h, Grow m1 H1 m H' ∧ R X.K X.mg m H' h ∧ RS X.K m H' σ' s ∧ PostS X.K X.mg W m H' (loopG ck gt gb (xs.drop (i + 1)) s h) D,
          fun σ' H' q => ⟨xs.length - (i + 1), by omega, rfl, hlt, q⟩, fun v H3 hy => ?_⟩
        obtain ⟨g3, R3, rep⟩ := hyl v H3 hy
        refine ⟨m2, s2, h2, xs[i], R3, rs2.grow g3, rep, ?_⟩
        generalize gt xs[i] s2 h2 = q at p2
        cases q with
        | nx s4 h4 =>
          intro m4 H4 σ4 g4 R4 rs4 _
          refine ⟨m4, s4, h4, R4, rs4, ?_⟩
          replace p2 := PostS.grow p2 (g3.trans g4)
          try dsimp only at p2
          generalize gb s4 h4 = q2 at p2
          have gg := (g2.trans (g3.trans g4))
          cases q2 with
          | nx s5 h5 => exact fun m5 H5 σ5 g5 R5 rs5 => ⟨m5, s5, h5, gg.trans g5, R5, rs5, PostS.grow p2 g5⟩
          | ct s5 h5 => exact fun m5 H5 σ5 g5 R5 rs5 => ⟨m5, s5, h5, gg.trans g5, R5, rs5, PostS.grow p2 g5⟩
          | bk s5 h5 => exact p2
          | rt d h5 => exact p2
          | exc c fs s h => exact p2
          | bad => exact p2
        | _ => exact False.elim p2
      · exact False.elim p2
    · have e : i = xs.length := by omega
      subst e
      rw [List.drop_length] at p2
      unfold loopG at p2
      split at p2
      · rename_i hck
        exact .inl ⟨(wd _ m2 H2 h2 g2 R2 hck).2 (Nat.le_refl _), p2 m2 H2 σ2 (Grow.refl _ _) R2 rs2⟩
      · exact False.elim p2

/-! ### comprehensions -/
def wipeD (s : DS) : List Nat → DS
  | [] => s
  | v :: vs => (wipeD s vs).set v none
theorem RS.wipe {K : PySem.W.Frag} {m : List Addr} {H : Hp} {σ : L2.St} {s : DS} (r : RS K m H σ s) : ∀ l : List Nat, RS K m H (wipe σ l) (wipeD s l)
  | [] => r
  | v :: l => (RS.wipe r l).clr v
/-- the new list stands at n -/
def lcLoop (ck : Option (Nat × List D)) (gt : GT) (ft fe : FE) (n : Nat) (s0 : DS) : List D → Hm → RD
  | [], h => if chkB ck h = true then .ok (.ref n) h else .bad
  | x :: xs, h => if chkB ck h = true then (match gt x s0 h with
    | .nx s1 h1 => (match ft s1 h1 with
      | .ok (.bl true) h2 => (match fe s1 h2 with
        | .ok d h3 => (match h3[n]? with
          | some (.lst acc) => if acc.length < big then lcLoop ck gt ft fe n s0 xs (h3.set n (.lst (acc ++ [d]))) else .bad
          | _ => .bad)
        | _ => .bad)
      | .ok (.bl false) h2 => lcLoop ck gt ft fe n s0 xs h2
      | _ => .bad)
    | _ => .bad) else .bad
def eLc (fi : FI) (gt : GT) (ft fe : FE) (own : List Nat) : FE := fun s h => match fi s h with
  | .ok xs ck h1 => lcLoop ck gt ft fe h1.length (wipeD s own) xs (h1 ++ [.lst []])
  | .exc c fs h1 => .exc c fs h1
  | .bad => .bad
/-- no exception is let out -/
abbrev W0 : WX := fun _ _ _ _ => False
def STs (X : Cx) (ifs : List Expr) (f : FE) : Prop := PTs X ifs (tST X.K X.mg W0 f)
theorem PTs.imp {X : Cx} {e : List Expr} {t t' : TT} (h : PTs X e t) (k : ∀ σ H Q, t' σ H Q → t σ H Q) : PTs X e t' := ⟨fun pins s σ H Q I q => h.run pins s σ H Q I (k _ _ _ q)⟩
theorem sts_nil : STs X [] (eC (.bl true)) := PTs.imp pts_nil fun σ H Q ⟨m, s, h, R0, rs, p⟩ => p m H (Grow.refl _ _) R0
theorem sts_one {c : Expr} {fc : FE} (h : ST X W0 c fc) : STs X [c] fc := pts_one h
theorem lc_ok {wi : TI} {fi : FI} {gt : GT} {ft fe : FE} {vs own : List Nat} {wk : Bool} (hv : ∀ i ∈ vs, i ∈ own) {σ : L2.St} {H : Hp} {Q : VK} (h : tS X.K X.mg W (eLc fi gt ft fe own) σ H Q) :
    tLc (tSI X.K X.mg W wk fi) (tSG X.K X.mg wk vs gt) (tST X.K X.mg W0 ft) (tS X.K X.mg W0 fe) own σ H Q := by
  obtain ⟨m, s, h, R0, rs, p⟩ := h
  refine ⟨m, s, h, R0, rs, ?_⟩
  unfold eLc at p
  generalize fi s h = r at p
  cases r with
  | exc c fs h1 => exact p
  | bad => exact p
  | ok xs ck h1 =>
    intro m1 H1 J g1 R1 wd Dn hD
    replace p := PostE.grow (show PostE X.K X.mg (fun c d H' => W c d σ H') m H (lcLoop ck gt ft fe h1.length (wipeD s own) xs (h1 ++ [.lst []])) Q from p) g1
    have gN : Grow m1 H1 (m1 ++ [Dn]) (upd H1 Dn (.lst [])) := Grow.newr hD
    have RN : R X.K X.mg (m1 ++ [Dn]) (upd H1 Dn (.lst [])) (h1 ++ [.lst []]) := R1.new hD ⟨[], upd_same, .nil⟩
    have nN : (m1 ++ [Dn])[h1.length]? = some Dn := R1.newAt
    generalize h1.length = n at p nN
    generalize h1 ++ [O.lst []] = hN at p RN
    generalize m1 ++ [Dn] = mN at gN RN nN
    generalize hHN : upd H1 Dn (.lst []) = HN at gN RN
    refine ⟨fun i k H => k = xs.length - i ∧ i ≤ xs.length ∧ ∃ m h, Grow mN HN m H ∧ R X.K X.mg m H h ∧ PostE X.K X.mg (fun c d H' => W c d σ H') m H (lcLoop ck gt ft fe n (wipeD s own) (xs.drop i) h) Q,
      ⟨xs.length, by simp, Nat.zero_le _, mN, hN, Grow.refl _ _, RN, PostE.grow p gN⟩, ?_⟩
    rintro i k H2 ⟨rfl, hi, m2, h2, g2, R2, p2⟩
    by_cases hlt : i < xs.length
    · rw [List.drop_eq_getElem_cons hlt] at p2
      unfold lcLoop at p2
      split at p2
      · rename_i hck
        obtain ⟨hgo, hyl⟩ := (wd i m2 H2 h2 (gN.trans g2) R2 hck).1 xs[i] (List.getElem?_eq_getElem hlt)
        refine .inr ⟨hgo, fun H' => ∃ m h, Grow mN HN m H' ∧ R X.K X.mg m H' h ∧ PostE X.K X.mg (fun c d H' => W c d σ H') m H' (lcLoop ck gt ft fe n (wipeD s own) (xs.drop (i + 1)) h) Q,
          fun H' q => ⟨xs.length - (i + 1), by omega, rfl, hlt, q⟩, fun v H3 hy => ?_⟩
        obtain ⟨g3, R3, rep⟩ := hyl v H3 hy
        refine ⟨m2, wipeD s own, h2, xs[i], R3, ((rs.grow (g1.trans (gN.trans (g2.trans g3)))).wipe own), rep, ?_⟩
        generalize gt xs[i] (wipeD s own) h2 = q at p2
        cases q with
        | nx s4 h4 =>
          intro m4 H4 σ4 g4 R4 rs4 hw
          refine ⟨(hw own hv).trans wipe_wipe, m4, s4, h4, R4, rs4, ?_⟩
          replace p2 := PostE.grow p2 (g3.trans g4)
          have gg := g2.trans (g3.trans g4)
          try dsimp only at p2
          generalize ft s4 h4 = q2 at p2
          cases q2 with
          | ok d h5 =>
            cases d with
            | bl b =>
              intro m5 H5 g5 R5
              replace p2 := PostE.grow p2 g5
              cases b with
              | false => exact iteF ⟨m5, h5, gg.trans g5, R5, p2⟩
              | true =>
                refine iteT ⟨m5, s4, h5, R5, rs4.grow g5, ?_⟩
                try dsimp only at p2
                generalize fe s4 h5 = q3 at p2
                cases q3 with
                | ok d h6 =>
                  intro m6 H6 v6 g6 R6 rep6
                  replace p2 := PostE.grow p2 g6
                  try dsimp only at p2
                  split at p2
                  · rename_i acc hk
                    split at p2
                    · rename_i hz
                      have hm6 : m6[n]? = some Dn := (gg.trans (g5.trans g6)).loc _ _ nN
                      obtain ⟨us, q1, q2⟩ := R6.ob _ _ _ hm6 hk
                      obtain ⟨g7, R7⟩ := R6.lset hm6 hk (q2.app (.cons rep6 .nil))
                      exact ⟨us, q1, big_lt (by rw [q2.length]; exact hz), m6, _, (gg.trans (g5.trans g6)).trans g7, R7, PostE.grow p2 g7⟩
                    · exact False.elim p2
                  · exact False.elim p2
                | _ => exact False.elim p2
            | _ => exact False.elim p2
          | _ => exact False.elim p2
        | _ => exact False.elim p2
      · exact False.elim p2
    · have e : i = xs.length := by omega
      subst e
      rw [List.drop_length] at p2
      unfold lcLoop at p2
      split at p2
      · rename_i hck
        exact .inl ⟨(wd _ m2 H2 h2 (gN.trans g2) R2 hck).2 (Nat.le_refl _), p2 m2 H2 _ (Grow.refl _ _) R2 (.ref (g2.loc _ _ nN))⟩
      · exact False.elim p2
end
end Sh

set_option Elab.async false
set_option linter.all false
set_option maxRecDepth 100000
set_option maxHeartbeats 4000000
namespace Sh
open PySem L2 PyProof.Rows
section
variable {X : Cx} {W : WX} {tg e a b o elt iter : Expr} {ifs : List Expr} {f fa fb fo fe ft : FE} {fi : FI} {gt : GT} {pos : Pos} {scope : Scope} {own : List (Str × Nat)} {vs : List Nat} {wk : Bool}
theorem mem_all {vs own : List Nat} (h : vs.all (fun i => own.contains i) = true) : ∀ i ∈ vs, i ∈ own := fun i hi => by
  have := List.all_eq_true.mp h i hi
  simpa using this
/-- [e for x in xs if ..] -/
theorem se_lc (hc : X.calm = true) (hN : X.N.Nodup) (hi : SI X W wk tg iter fi) (ok : BlkOk X.N X.env.scope scope own)
    (hg : ∀ (s : Shared) (H : Hp) (C : Addr) (cl : List (Str × Addr)) (fp : List Addr), SG (X.blk s H scope (compEnvC scope cl C X.env) fp) wk tg vs gt) (ht : ∀ (s : Shared) (H : Hp) (C : Addr) (cl : List (Str × Addr)) (fp : List Addr), STs (X.blk s H scope (compEnvC scope cl C X.env) fp) ifs ft)
    (he : ∀ (s : Shared) (H : Hp) (C : Addr) (cl : List (Str × Addr)) (fp : List Addr), SE (X.blk s H scope (compEnvC scope cl C X.env) fp) W0 elt fe) (hs : ∀ x, foldedSetIterable iter X.env x = pure x := by intro _; rfl) (hv : vs.all (fun i => (own.map (·.2)).contains i) = true := by rfl) :
    SE X W (.ListComp elt [⟨tg, iter, ifs, 0⟩] scope pos) (eLc fi gt ft fe (own.map (·.2))) :=
  PE.imp (pe_lc (g := tSG X.K X.mg wk vs gt) (tt := tST X.K X.mg W0 ft) (te := tS X.K X.mg W0 fe) hc hN hi ok hg ht he hs) fun σ H Q h => lc_ok (wi := tSI X.K X.mg W wk fi) (mem_all hv) h
theorem ss_setLc {i : Nat} {y : Str} {py spos : Pos} (hc : X.calm = true) (hN : X.N.Nodup) (hy : X.N[i]? = some y) (hyl : X.env.scope.names.lookup y = some .local)
    (hsw : swapsWith (.ListComp elt [⟨tg, iter, ifs, 0⟩] scope pos) (some (.Name y py)) spos.line X.env = pure true) (hi : SI X W wk tg iter fi) (ok : BlkOk X.N X.env.scope scope own)
    (hg : ∀ (s : Shared) (H : Hp) (C : Addr) (cl : List (Str × Addr)) (fp : List Addr), SG (X.blk s H scope (compEnvC scope cl C X.env) fp) wk tg vs gt) (ht : ∀ (s : Shared) (H : Hp) (C : Addr) (cl : List (Str × Addr)) (fp : List Addr), STs (X.blk s H scope (compEnvC scope cl C X.env) fp) ifs ft)
    (he : ∀ (s : Shared) (H : Hp) (C : Addr) (cl : List (Str × Addr)) (fp : List Addr), SE (X.blk s H scope (compEnvC scope cl C X.env) fp) W0 elt fe) (hs : ∀ x, foldedSetIterable iter X.env x = pure x := by intro _; rfl) (hv : vs.all (fun i => (own.map (·.2)).contains i) = true := by rfl) :
    SS X W (.Assign [.Name y py] (.ListComp elt [⟨tg, iter, ifs, 0⟩] scope pos) spos) (gSet i (eLc fi gt ft fe (own.map (·.2)))) := by
  refine PS.imp (ps_setLc (g := tSG X.K X.mg wk vs gt) (tt := tST X.K X.mg W0 ft) (te := tS X.K X.mg W0 fe) hc hN hy hyl hsw hi ok hg ht he hs) fun D σ H h => ?_
  obtain ⟨m, s, h, R0, rs, p⟩ := h
  refine lc_ok (X := X) (W := W) (wi := tSI X.K X.mg W wk fi) (mem_all hv) ⟨m, s, h, R0, rs, PostE.mono (PostS.ofE rs p) ?_⟩
  rintro x H1 ⟨m1, dx, h1, g1, R1, rx, p1⟩
  exact p1 m1 H1 _ (Grow.refl _ _) R1 ((rs.grow g1).set i rx)
/-! two fors -/
def lcIn (ck : Option (Nat × List D)) (gt : GT) (ft fe : FE) (n : Nat) (s0 : DS) : List D → Hm → Option Hm
  | [], h => if chkB ck h = true then some h else none
  | x :: xs, h => if chkB ck h = true then (match gt x s0 h with
    | .nx s1 h1 => (match ft s1 h1 with
      | .ok (.bl true) h2 => (match fe s1 h2 with
        | .ok d h3 => (match h3[n]? with
          | some (.lst acc) => if acc.length < big then lcIn ck gt ft fe n s0 xs (h3.set n (.lst (acc ++ [d]))) else none
          | _ => none)
        | _ => none)
      | .ok (.bl false) h2 => lcIn ck gt ft fe n s0 xs h2
      | _ => none)
    | _ => none) else none
def lc2Loop (ck : Option (Nat × List D)) (gt : GT) (ft : FE) (fi1 : FI) (gt1 : GT) (ft1 fe : FE) (n : Nat) (s0 : DS) (vs1 : List Nat) : List D → Hm → RD
  | [], h => if chkB ck h = true then .ok (.ref n) h else .bad
  | x :: xs, h => if chkB ck h = true then (match gt x s0 h with
    | .nx s1 h1 => (match ft s1 h1 with
      | .ok (.bl true) h2 => (match fi1 s1 h2 with
        | .ok ys ck1 h3 => (match lcIn ck1 gt1 ft1 fe n (wipeD s1 vs1) ys h3 with
          | some h4 => lc2Loop ck gt ft fi1 gt1 ft1 fe n s0 vs1 xs h4
          | none => .bad)
        | _ => .bad)
      | .ok (.bl false) h2 => lc2Loop ck gt ft fi1 gt1 ft1 fe n s0 vs1 xs h2
      | _ => .bad)
    | _ => .bad) else .bad
def eLc2 (fi : FI) (gt : GT) (ft : FE) (fi1 : FI) (gt1 : GT) (ft1 fe : FE) (own vs1 : List Nat) : FE := fun s h => match fi s h with
  | .ok xs ck h1 => lc2Loop ck gt ft fi1 gt1 ft1 fe h1.length (wipeD s own) vs1 xs (h1 ++ [.lst []])
  | .exc c fs h1 => .exc c fs h1
  | .bad => .bad
theorem lc2_ok {fi1 : FI} {gt1 : GT} {ft1 : FE} {ws own vs1 : List Nat} {wk1 : Bool} (hv : ∀ i ∈ vs, i ∈ own) (hw1 : ∀ i ∈ ws, i ∈ vs1) {σ : L2.St} {H : Hp} {Q : VK} (h : tS X.K X.mg W (eLc2 fi gt ft fi1 gt1 ft1 fe own vs1) σ H Q) :
    tLc2 (tSI X.K X.mg W wk fi) (tSG X.K X.mg wk vs gt) (tST X.K X.mg W0 ft) (tSI X.K X.mg W0 wk1 fi1) (tSG X.K X.mg wk1 ws gt1) (tST X.K X.mg W0 ft1) (tS X.K X.mg W0 fe) own vs1 σ H Q := by
  obtain ⟨m, s, h, R0, rs, p⟩ := h
  refine ⟨m, s, h, R0, rs, ?_⟩
  unfold eLc2 at p
  generalize fi s h = r at p
  cases r with
  | exc c fs h1 => exact p
  | bad => exact p
  | ok xs ck h1 =>
    intro m1 H1 J g1 R1 wd Dn hD
    replace p := PostE.grow (show PostE X.K X.mg (fun c d H' => W c d σ H') m H (lc2Loop ck gt ft fi1 gt1 ft1 fe h1.length (wipeD s own) vs1 xs (h1 ++ [.lst []])) Q from p) g1
    have gN : Grow m1 H1 (m1 ++ [Dn]) (upd H1 Dn (.lst [])) := Grow.newr hD
    have RN : R X.K X.mg (m1 ++ [Dn]) (upd H1 Dn (.lst [])) (h1 ++ [.lst []]) := R1.new hD ⟨[], upd_same, .nil⟩
    have nN : (m1 ++ [Dn])[h1.length]? = some Dn := R1.newAt
    generalize h1.length = n at p nN
    generalize h1 ++ [O.lst []] = hN at p RN
    generalize m1 ++ [Dn] = mN at gN RN nN
    generalize hHN : upd H1 Dn (.lst []) = HN at gN RN
    refine ⟨fun i k H => k = xs.length - i ∧ i ≤ xs.length ∧ ∃ m h, Grow mN HN m H ∧ R X.K X.mg m H h ∧ PostE X.K X.mg (fun c d H' => W c d σ H') m H (lc2Loop ck gt ft fi1 gt1 ft1 fe n (wipeD s own) vs1 (xs.drop i) h) Q,
      ⟨xs.length, by simp, Nat.zero_le _, mN, hN, Grow.refl _ _, RN, PostE.grow p gN⟩, ?_⟩
    rintro i k H2 ⟨rfl, hi, m2, h2, g2, R2, p2⟩
    by_cases hlt : i < xs.length
    · rw [List.drop_eq_getElem_cons hlt] at p2
      unfold lc2Loop at p2
      split at p2
      · rename_i hck
        obtain ⟨hgo, hyl⟩ := (wd i m2 H2 h2 (gN.trans g2) R2 hck).1 xs[i] (List.getElem?_eq_getElem hlt)
        refine .inr ⟨hgo, fun H' => ∃ m h, Grow mN HN m H' ∧ R X.K X.mg m H' h ∧ PostE X.K X.mg (fun c d H' => W c d σ H') m H' (lc2Loop ck gt ft fi1 gt1 ft1 fe n (wipeD s own) vs1 (xs.drop (i + 1)) h) Q,
          fun H' q => ⟨xs.length - (i + 1), by omega, rfl, hlt, q⟩, fun v H3 hy => ?_⟩
        obtain ⟨g3, R3, rep⟩ := hyl v H3 hy
        refine ⟨m2, wipeD s own, h2, xs[i], R3, ((rs.grow (g1.trans (gN.trans (g2.trans g3)))).wipe own), rep, ?_⟩
        generalize gt xs[i] (wipeD s own) h2 = q at p2
        cases q with
        | nx s4 h4 =>
          intro m4 H4 σ4 g4 R4 rs4 hw
          refine ⟨(hw own hv).trans wipe_wipe, m4, s4, h4, R4, rs4, ?_⟩
          replace p2 := PostE.grow p2 (g3.trans g4)
          have gg := g2.trans (g3.trans g4)
          try dsimp only at p2
          generalize ft s4 h4 = q2 at p2
          cases q2 with
          | ok d h5 =>
            cases d with
            | bl b =>
              intro m5 H5 g5 R5
              replace p2 := PostE.grow p2 g5
              have gg5 := gg.trans g5
              cases b with
              | false => exact iteF ⟨m5, h5, gg5, R5, p2⟩
              | true =>
                refine iteT ⟨m5, s4, h5, R5, rs4.grow g5, ?_⟩
                try dsimp only at p2
                generalize fi1 s4 h5 = q3 at p2
                cases q3 with
                | ok ys ck1 h6 =>
                  intro m6 H6 J1 g6 R6 wd1
                  replace p2 := PostE.grow p2 g6
                  have gg6 := gg5.trans g6
                  have rs6 := (rs4.grow g5).grow g6
                  try dsimp only at p2
                  split at p2
                  · rename_i hE he
                    refine ⟨fun j k H => k = ys.length - j ∧ j ≤ ys.length ∧ ∃ m h, Grow m6 H6 m H ∧ R X.K X.mg m H h ∧ lcIn ck1 gt1 ft1 fe n (wipeD s4 vs1) (ys.drop j) h = some hE,
                      ⟨ys.length, by simp, Nat.zero_le _, m6, h6, Grow.refl _ _, R6, he⟩, ?_⟩
                    rintro j k H7 ⟨rfl, hj, m7, h7, g7, R7, e7⟩
                    have gg7 := gg6.trans g7
                    by_cases hlj : j < ys.length
                    · rw [List.drop_eq_getElem_cons hlj] at e7
                      unfold lcIn at e7
                      split at e7
                      · rename_i hck1
                        obtain ⟨hgo1, hyl1⟩ := (wd1 j m7 H7 h7 g7 R7 hck1).1 ys[j] (List.getElem?_eq_getElem hlj)
                        refine .inr ⟨hgo1, fun H' => ∃ m h, Grow m6 H6 m H' ∧ R X.K X.mg m H' h ∧ lcIn ck1 gt1 ft1 fe n (wipeD s4 vs1) (ys.drop (j + 1)) h = some hE,
                          fun H' q => ⟨ys.length - (j + 1), by omega, rfl, hlj, q⟩, fun v H8 hy8 => ?_⟩
                        obtain ⟨g8, R8, rep8⟩ := hyl1 v H8 hy8
                        refine ⟨m7, wipeD s4 vs1, h7, ys[j], R8, ((rs6.grow (g7.trans g8)).wipe vs1), rep8, ?_⟩
                        generalize gt1 ys[j] (wipeD s4 vs1) h7 = q4 at e7
                        cases q4 with
                        | nx s9 h9 =>
                          intro m9 H9 σ9 g9 R9 rs9 hw9
                          refine ⟨(hw9 vs1 hw1).trans wipe_wipe, m9, s9, h9, R9, rs9, ?_⟩
                          have gg9 := g7.trans (g8.trans g9)
                          try dsimp only at e7
                          generalize ft1 s9 h9 = q5 at e7
                          cases q5 with
                          | ok d hA =>
                            cases d with
                            | bl b =>
                              intro mA HA gA RA
                              cases b with
                              | false => exact iteF ⟨mA, hA, gg9.trans gA, RA, e7⟩
                              | true =>
                                refine iteT ⟨mA, s9, hA, RA, rs9.grow gA, ?_⟩
                                try dsimp only at e7
                                generalize fe s9 hA = q6 at e7
                                cases q6 with
                                | ok d hB =>
                                  intro mB HB vB gB RB repB
                                  try dsimp only at e7
                                  split at e7
                                  · rename_i acc hk
                                    split at e7
                                    · rename_i hz
                                      have hmB : mB[n]? = some Dn := (((gg6.trans gg9).trans gA).trans gB).loc _ _ nN
                                      obtain ⟨us, q1, q2⟩ := RB.ob _ _ _ hmB hk
                                      obtain ⟨gC, RC⟩ := RB.lset hmB hk (q2.app (.cons repB .nil))
                                      exact ⟨us, q1, big_lt (by rw [q2.length]; exact hz), mB, _, ((gg9.trans gA).trans gB).trans gC, RC, e7⟩
                                    · cases e7
                                  · cases e7
                                | _ => cases e7
                            | _ => cases e7
                          | _ => cases e7
                        | _ => cases e7
                      · cases e7
                    · have e : j = ys.length := by omega
                      subst e
                      rw [List.drop_length] at e7
                      unfold lcIn at e7
                      split at e7
                      · rename_i hck1
                        cases e7
                        exact .inl ⟨(wd1 _ m7 H7 _ g7 R7 hck1).2 (Nat.le_refl _), m7, _, gg7, R7, PostE.grow p2 g7⟩
                      · cases e7
                  · exact False.elim p2
                | _ => exact False.elim p2
            | _ => exact False.elim p2
          | _ => exact False.elim p2
        | _ => exact False.elim p2
      · exact False.elim p2
    · have e : i = xs.length := by omega
      subst e
      rw [List.drop_length] at p2
      unfold lc2Loop at p2
      split at p2
      · rename_i hck
        exact .inl ⟨(wd _ m2 H2 h2 (gN.trans g2) R2 hck).2 (Nat.le_refl _), p2 m2 H2 _ (Grow.refl _ _) R2 (.ref (g2.loc _ _ nN))⟩
      · exact False.elim p2
variable {tg1 iter1 : Expr} {ifs1 : List Expr} {fi1 : FI} {gt1 : GT} {ft1 : FE} {ws vs1 : List Nat} {wk1 : Bool}
theorem se_lc2 (hc : X.calm = true) (hN : X.N.Nodup) (hi : SI X W wk tg iter fi) (ok : BlkOk X.N X.env.scope scope own)
    (hg : ∀ (s : Shared) (H : Hp) (C : Addr) (cl : List (Str × Addr)) (fp : List Addr), SG (X.blk s H scope (compEnvC scope cl C X.env) fp) wk tg vs gt) (ht : ∀ (s : Shared) (H : Hp) (C : Addr) (cl : List (Str × Addr)) (fp : List Addr), STs (X.blk s H scope (compEnvC scope cl C X.env) fp) ifs ft)
    (hi1 : ∀ (s : Shared) (H : Hp) (C : Addr) (cl : List (Str × Addr)) (fp : List Addr), SI (X.blk s H scope (compEnvC scope cl C X.env) fp) W0 wk1 tg1 iter1 fi1)
    (hg1 : ∀ (s : Shared) (H : Hp) (C : Addr) (cl : List (Str × Addr)) (fp : List Addr), SG (X.blk s H scope (compEnvC scope cl C X.env) fp) wk1 tg1 ws gt1) (ht1 : ∀ (s : Shared) (H : Hp) (C : Addr) (cl : List (Str × Addr)) (fp : List Addr), STs (X.blk s H scope (compEnvC scope cl C X.env) fp) ifs1 ft1)
    (he : ∀ (s : Shared) (H : Hp) (C : Addr) (cl : List (Str × Addr)) (fp : List Addr), SE (X.blk s H scope (compEnvC scope cl C X.env) fp) W0 elt fe) (hs : ∀ x, foldedSetIterable iter X.env x = pure x := by intro _; rfl) (hs1 : ∀ env x, foldedSetIterable iter1 env x = pure x := by intro _ _; rfl)
    (hv : vs.all (fun i => (own.map (·.2)).contains i) = true := by rfl) (hv1 : vs1.all (fun i => (own.map (·.2)).contains i) = true := by rfl) (hw1 : ws.all (fun i => vs1.contains i) = true := by rfl) :
    SE X W (.ListComp elt [⟨tg, iter, ifs, 0⟩, ⟨tg1, iter1, ifs1, 0⟩] scope pos) (eLc2 fi gt ft fi1 gt1 ft1 fe (own.map (·.2)) vs1) :=
  PE.imp (pe_lc2 (g := tSG X.K X.mg wk vs gt) (tt := tST X.K X.mg W0 ft) (te := tS X.K X.mg W0 fe) (wi1 := tSI X.K X.mg W0 wk1 fi1) (g1 := tSG X.K X.mg wk1 ws gt1) (tt1 := tST X.K X.mg W0 ft1) hc hN hi ok (mem_all hv1) hg ht hi1 hg1 ht1 he hs hs1) fun σ H Q h => lc2_ok (mem_all hv) (mem_all hw1) h
theorem ss_setLc2 {i : Nat} {y : Str} {py spos : Pos} (hc : X.calm = true) (hN : X.N.Nodup) (hy : X.N[i]? = some y) (hyl : X.env.scope.names.lookup y = some .local)
    (hsw : swapsWith (.ListComp elt [⟨tg, iter, ifs, 0⟩, ⟨tg1, iter1, ifs1, 0⟩] scope pos) (some (.Name y py)) spos.line X.env = pure true) (hi : SI X W wk tg iter fi) (ok : BlkOk X.N X.env.scope scope own)
    (hg : ∀ (s : Shared) (H : Hp) (C : Addr) (cl : List (Str × Addr)) (fp : List Addr), SG (X.blk s H scope (compEnvC scope cl C X.env) fp) wk tg vs gt) (ht : ∀ (s : Shared) (H : Hp) (C : Addr) (cl : List (Str × Addr)) (fp : List Addr), STs (X.blk s H scope (compEnvC scope cl C X.env) fp) ifs ft)
    (hi1 : ∀ (s : Shared) (H : Hp) (C : Addr) (cl : List (Str × Addr)) (fp : List Addr), SI (X.blk s H scope (compEnvC scope cl C X.env) fp) W0 wk1 tg1 iter1 fi1)
    (hg1 : ∀ (s : Shared) (H : Hp) (C : Addr) (cl : List (Str × Addr)) (fp : List Addr), SG (X.blk s H scope (compEnvC scope cl C X.env) fp) wk1 tg1 ws gt1) (ht1 : ∀ (s : Shared) (H : Hp) (C : Addr) (cl : List (Str × Addr)) (fp : List Addr), STs (X.blk s H scope (compEnvC scope cl C X.env) fp) ifs1 ft1)
    (he : ∀ (s : Shared) (H : Hp) (C : Addr) (cl : List (Str × Addr)) (fp : List Addr), SE (X.blk s H scope (compEnvC scope cl C X.env) fp) W0 elt fe) (hs : ∀ x, foldedSetIterable iter X.env x = pure x := by intro _; rfl) (hs1 : ∀ env x, foldedSetIterable iter1 env x = pure x := by intro _ _; rfl)
    (hv : vs.all (fun i => (own.map (·.2)).contains i) = true := by rfl) (hv1 : vs1.all (fun i => (own.map (·.2)).contains i) = true := by rfl) (hw1 : ws.all (fun i => vs1.contains i) = true := by rfl) :
    SS X W (.Assign [.Name y py] (.ListComp elt [⟨tg, iter, ifs, 0⟩, ⟨tg1, iter1, ifs1, 0⟩] scope pos) spos) (gSet i (eLc2 fi gt ft fi1 gt1 ft1 fe (own.map (·.2)) vs1)) := by
  refine PS.imp (ps_setLc2 (g := tSG X.K X.mg wk vs gt) (tt := tST X.K X.mg W0 ft) (te := tS X.K X.mg W0 fe) (wi1 := tSI X.K X.mg W0 wk1 fi1) (g1 := tSG X.K X.mg wk1 ws gt1) (tt1 := tST X.K X.mg W0 ft1) hc hN hy hyl hsw hi ok (mem_all hv1) hg ht hi1 hg1 ht1 he hs hs1) fun D σ H h => ?_
  obtain ⟨m, s, h, R0, rs, p⟩ := h
  refine lc2_ok (X := X) (W := W) (wk := wk) (mem_all hv) (mem_all hw1) ⟨m, s, h, R0, rs, PostE.mono (PostS.ofE rs p) ?_⟩
  rintro x H1 ⟨m1, dx, h1, g1, R1, rx, p1⟩
  exact p1 m1 H1 _ (Grow.refl _ _) R1 ((rs.grow g1).set i rx)

/-! ### raise, try -/
/-- what the written part says of an own exception class without __init__ -/
structure ExcT (X : Cx) (c : Str) (C : Addr) : Prop where
  gC : X.mg c = some (.ref C)
  xC : PySem.W.excIn X.K C [.type "ValueError", .type "Exception", .type "BaseException", .type "object"] "ValueError.__new__" = true
  kC : PySem.W.keepIn X.K (.ref C) = true
  bC : PySem.W.subIn X.K (.ref C) (.type "BaseException") = some true
  tC : PySem.W.typeIn X.K (.ref C) = some (.type "type")
theorem pmk_own0 {x : Str} {C : Addr} {p : Pos} (T : ExcT X x C) (hg : Gl X x) (hdb : (x == ("__debug__" : Str)) = false := by decide) : PMk X (.Call (.Name x p) [] [] pos) (fun _ H Q => Q (.ref C) none H) := by
  intro pins s σ H Q I h
  refine wpAny_Call_Name_kw (ld_glob I hg T.gC ?_ hdb)
  refine PySem.W.callWith_K0 I.kIn T.kC ?_
  show wpAny _ _ (call (.ref C) []) _ _ _
  obtain ⟨bm, N, nm, qn, bs, hdct, sn, sub, ab, col, dd, k0, k1, k2, k3, k5, mN, hC, hN, hni, TT⟩ := exc_obj I.kIn T.xC
  refine wpAny_call_exc_subT PySem.F.excBase_ValueError TT hC hN hni (fun h' e hm => ?_) (by show 0 ≤ sizeLine; rw [sizeLine_eq]; omega)
  exact mk_of I hm (raises_own T.bC T.tC) h (I.hok.gone hm.new)
def gRaise (c : Str) : FS := fun s h => .exc c [] s h
theorem ss_raise {x : Str} {C : Addr} {p pos' : Pos} (hc : X.calm = true) (tk : Takes X W) (T : ExcT X x C) (hg : Gl X x) (hdb : (x == ("__debug__" : Str)) = false := by decide) : SS X W (.Raise (some (.Call (.Name x p) [] [] pos')) none pos) (gRaise x) := by
  refine PS.imp (ps_raise hc tk (pmk_own0 T hg hdb)) fun D σ H h => ?_
  obtain ⟨m, s, h, R0, rs, p⟩ := h
  exact p m H σ (.ref C) none (Grow.refl _ _) R0 rs ⟨C, T.gC, rfl, fun z => absurd rfl z⟩
end
end Sh

set_option Elab.async false
set_option linter.all false
set_option maxRecDepth 100000
set_option maxHeartbeats 4000000
namespace Sh
open PySem L2 PyProof.Rows
/-! ### try -/
/-- which classes a clause takes -/
abbrev SubT := List ((Str × Str) × Bool)
def SubOk (K : PySem.W.Frag) (mg : Str → Option Value) (l : SubT) : Prop := ∀ p ∈ l, ∀ C Cx, mg p.1.1 = some (.ref C) → mg p.1.2 = some (.ref Cx) → PySem.W.exmOne K (.ref C) (.ref Cx) = some p.2
def subT (l : SubT) (c x : Str) : Option Bool := l.lookup (c, x)
theorem mem_look {κ α : Type} [BEq κ] [LawfulBEq κ] : ∀ {l : List (κ × α)} {k : κ} {v : α}, l.lookup k = some v → (k, v) ∈ l
  | [], _, _, e => by simp at e
  | (q, w) :: l, k, v, e => by
    by_cases h : k = q
    · subst h
      simp [List.lookup] at e
      subst e
      exact List.mem_cons_self ..
    · have hb : (k == q) = false := by simpa using h
      simp only [List.lookup, hb] at e
      exact List.mem_cons_of_mem _ (mem_look e)
theorem subT_ok {K : PySem.W.Frag} {mg : Str → Option Value} {l : SubT} (S : SubOk K mg l) {c x : Str} {b : Bool} (e : subT l c x = some b) {C Cx : Addr} (h1 : mg c = some (.ref C)) (h2 : mg x = some (.ref Cx)) : PySem.W.exmOne K (.ref C) (.ref Cx) = some b :=
  S ((c, x), b) (mem_look e) C Cx h1 h2
def handle (l : SubT) : List (Str × FS) → Str → List (Str × D) → DS → Hm → RT
  | [], c, fs, s, h => .exc c fs s h
  | (x, g) :: r, c, fs, s, h => match subT l c x with
    | some true => (match g s h with
      | .exc _ _ _ _ => .bad
      | t => t)
    | some false => handle l r c fs s h
    | none => .bad
def gTry (l : SubT) (gb : FS) (hs : List (Str × FS)) : FS := fun s h => match gb s h with
  | .exc c fs s' h' => handle l hs c fs s' h'
  | r => r
abbrev Hd := Str × Addr × FS
section
variable {X : Cx} {W : WX} {body : List Stmt} {pos : Pos} {gb : FS}
def SHd (X : Cx) (hds : List ExceptHandler) (hs : List Hd) : Prop := HdsOk X hds (hs.map fun p => (.ref p.2.1, fun _ _ _ => tSS X.K X.mg W0 p.2.2)) ∧ ∀ p ∈ hs, X.mg p.1 = some (.ref p.2.1)
theorem sh_nil : SHd X [] [] := ⟨.nil, fun _ z => by cases z⟩
theorem sh_cons {x : Str} {C : Addr} {g : FS} {b₀ : Stmt} {suite : List Stmt} {np pos' : Pos} {hds : List ExceptHandler} {hs : List Hd} (hg : Gl X x) (gC : X.mg x = some (.ref C))
    (hsu : ∀ (a : Addr) (oe : Obj) (pn : List (Addr × Obj)), SSs (X.suite a ((a, oe) :: pn)) W0 (b₀ :: suite) g) (r : SHd X hds hs) (hdb : (x == ("__debug__" : Str)) = false := by decide) : SHd X (.ExceptHandler (some (.Name x np)) none (b₀ :: suite) pos' :: hds) ((x, C, g) :: hs) :=
  ⟨.cons ⟨hg, hdb, .inl gC⟩ (fun a oe cls d pn _ _ => hsu a oe pn) r.1, fun p hp => by
    rcases List.mem_cons.mp hp with rfl | hp
    · exact gC
    · exact r.2 p hp⟩
theorem try_ok {l : SubT} {hs : List Hd} {En : Ends} {m : List Addr} {H : Hp} (S : SubOk X.K X.mg l) (hm : ∀ p ∈ hs, X.mg p.1 = some (.ref p.2.1)) {c : Str} {fs : List (Str × D)} {s' : DS} {h' : Hm}
    (p : PostS X.K X.mg W m H (handle l (hs.map fun p => (p.1, p.2.2)) c fs s' h') En) : ∀ m' H' σ' cls dx, Grow m H m' H' → R X.K X.mg m' H' h' → RS X.K m' H' σ' s' → ExcAt X.K X.mg m' H' cls dx c fs →
      wMany X.K W En (hs.map fun p => (.ref p.2.1, fun _ _ _ => tSS X.K X.mg W0 p.2.2)) cls dx σ' H' := by
  intro m' H' σ' cls dx g R' rs' ex
  induction hs with
  | nil => exact p m' H' σ' cls dx g R' rs' ex
  | cons q r ih =>
    obtain ⟨x, C, gs⟩ := q
    have gx : X.mg x = some (.ref C) := hm (x, C, gs) (List.mem_cons_self ..)
    obtain ⟨Cc, e1, e2, e3⟩ := id ex
    rw [List.map_cons] at p
    unfold handle at p
    split at p
    · rename_i hb
      refine ⟨true, by rw [e2]; exact subT_ok S hb e1 gx, fun _ a ha => ⟨m', s', h', R', rs', ?_⟩, fun z => Bool.noConfusion z⟩
      replace p := PostS.grow p g
      dsimp only at p
      show PostS X.K X.mg W0 m' H' (gs s' h') En
      generalize gs s' h' = t at p ⊢
      cases t <;> first | exact p | exact False.elim p
    · rename_i hb
      exact ⟨false, by rw [e2]; exact subT_ok S hb e1 gx, fun z => Bool.noConfusion z, fun _ => ih (fun p hp => hm p (List.mem_cons_of_mem _ hp)) p⟩
    · exact False.elim p
theorem ss_try {l : SubT} {h0 : ExceptHandler} {hds : List ExceptHandler} {hs : List Hd} (hst : X.stack = X.env :: X.outer) (hf : X.env.frame = some X.env.locals) (tk : Takes X W) (S : SubOk X.K X.mg l)
    (hb : ∀ (W : WX) (pn : List (Addr × Obj)) (xe : Value → Shared → Prop), Takes (X.tr pn xe) W → PassesOwn (model X.prog X.w) X.A X.env xe → SSs (X.tr pn xe) W body gb) (hh : SHd X (h0 :: hds) hs) :
    SS X W (.Try body (h0 :: hds) [] [] pos) (gTry l gb (hs.map fun p => (p.1, p.2.2))) := by
  refine PS.imp (ps_try_many hst hf tk (tb := fun W => tSS X.K X.mg W gb) hb hh.1) fun D σ H h => ?_
  obtain ⟨m, s, h, R0, rs, p⟩ := h
  refine ⟨m, s, h, R0, rs, ?_⟩
  unfold gTry at p
  generalize gb s h = r at p
  cases r with
  | exc c fs s' h' => exact try_ok S hh.2 p
  | nx s h => exact p
  | bk s h => exact p
  | ct s h => exact p
  | rt d h => exact p
  | bad => exact p
end

/-! ### a def -/
def runB (n : Nat) (g : FS) (ds : List D) (h : Hm) : RD := match g (ds.map some ++ List.replicate (n - ds.length) none) h with
  | .nx _ h' => .ok .non h'
  | .rt d h' => .ok d h'
  | .exc c fs _ h' => .exc c fs h'
  | _ => .bad
section
variable {P : Program} {w : World} {K : PySem.W.Frag} {mg : Str → Option Value} {base : Heap} {x qual : Str} {st : Stmt} {f : Addr} {fd : FuncData} {N ps : List Str} {k : Nat} {g : FS}
theorem okS (Fu : Fun K x qual st f fd) (S : FnScope N ps (defScope st))
    (hb : ∀ (cdv : Value) (A : Around) (outer : List Env) (s : Shared) (H : Hp) (E : XK), Room k (A.deeper (envOfC qual (defScope st) s.heap.objs.size f cdv)) →
      Takes (cxOf (L2.CX P w) P w K mg base N qual (defScope st) f cdv A outer s H E) (fun cls d _ H' => E cls d H') → PassesOwn (model P w) (A.deeper (envOfC qual (defScope st) s.heap.objs.size f cdv)) (envOfC qual (defScope st) s.heap.objs.size f cdv) (cxOf (L2.CX P w) P w K mg base N qual (defScope st) f cdv A outer s H E).xe →
      SSs (cxOf (L2.CX P w) P w K mg base N qual (defScope st) f cdv A outer s H E) (fun cls d _ H' => E cls d H') (defBody st) g) :
    FnOk P w K mg base (L2.CX P w) (k + 1) f fd ps (spF K mg ps.length (runB N.length g)) := by
  refine Fu.okX S (fun vs H Q E h => h.1) fun cdv A outer s H vs Q E hr h => ?_
  obtain ⟨hl, m, ds, h0, R0, rv, p⟩ := h
  have tk : Takes (cxOf (L2.CX P w) P w K mg base N qual (defScope st) f cdv A outer s H E) (fun cls d _ H' => E cls d H') := takes_of rfl rfl rfl rfl
  have po : PassesOwn (model P w) (A.deeper (envOfC qual (defScope st) s.heap.objs.size f cdv)) (envOfC qual (defScope st) s.heap.objs.size f cdv) (cxOf (L2.CX P w) P w K mg base N qual (defScope st) f cdv A outer s H E).xe := passes_of (X := cxOf (L2.CX P w) P w K mg base N qual (defScope st) f cdv A outer s H E) rfl
  refine ⟨_, hb cdv A outer s H E hr tk po, m, _, h0, R0, RS.start N rv, ?_⟩
  unfold runB at p
  generalize g (ds.map some ++ List.replicate (N.length - ds.length) none) h0 = r at p
  cases r with
  | nx s' h' => exact fun m' H' σ' gg R' rs' => p m' H' .non gg R' .non
  | rt d h' => exact p
  | exc c fs s' h' => exact fun m' H' σ' cls dx gg R' rs' ex => p m' H' cls dx gg R' ex
  | bk s' h' => exact False.elim p
  | ct s' h' => exact False.elim p
  | bad => exact False.elim p
end

/-! ### C(e, .., k = v, ..) -/
section
variable {X : Cx} {W : WX} {e : Expr} {es : List Expr} {fs fk : List FE} {kws : List Keyword} {pos p : Pos} {k n : Nat} {C fA : Addr} {fd : FuncData} {ps ks : List Str} {F : FF} {x : Str}
def tMakeS (C : Addr) (n m : Nat) (sp : Sp) (E : L2.St → XK) (t tk : TA) : TE := fun σ H Q => t σ H fun vs H1 => tk σ H1 fun zs H2 => vs.length = n ∧ zs.length = m ∧
  ∀ x dx, H2 x = none → H2 dx = none → dx ≠ x → sp (.ref x :: (vs ++ zs)) (upd (upd H2 dx (.own x)) x (.ins C dx [])) (fun v H3 => v = .non ∧ Q (.ref x) H3) (E σ)
theorem run_makeS {CX : CXT} {E : L2.St → XK} {sp : Sp} {pins : List (Addr × Obj)} {σ : L2.St} {H : Hp} {s : Shared} {Q : VK} {us ws : List Value} {vs zs : List V} (M : Mk X.K C fA) (G : FnOk X.prog X.w X.K X.mg X.base CX k fA fd ps sp) (hr : Room (k + 1) X.A)
    (hb : ∀ (s : Shared) (us ws : List Value), us.length = n + 1 → ws.length = ks.length → BindsTo s fd ⟨us, ks.zip ws⟩ (ps.zip (us ++ ws)))
    (hx : PassesAt CX X σ (E σ)) (I : Inv X pins σ H s) (r : Vals vs us) (rz : Vals zs ws) (l1 : vs.length = n) (l2 : zs.length = ks.length)
    (h : ∀ x dx, H x = none → H dx = none → dx ≠ x → sp (.ref x :: (vs ++ zs)) (upd (upd H dx (.own x)) x (.ins C dx [])) (fun v H2 => v = .non ∧ Q (.ref x) H2) (E σ)) :
    wpAny (model X.prog X.w) X.A (call (.ref C) us (ks.zip ws)) (EP X pins σ Q) X.xe s := by
  have hq := h (s.heap.objs.size + 1) s.heap.objs.size (I.hok.fresh (Nat.le_succ _)) (I.hok.fresh (Nat.le_refl _)) (Nat.ne_of_lt (Nat.lt_succ_self _))
  have I2 := Inv.made (C := C) I
  have r1 : Vals (V.ref (s.heap.objs.size + 1) :: vs) (Value.ref (s.heap.objs.size + 1) :: us) := .cons rfl r
  have r2 : Vals (V.ref (s.heap.objs.size + 1) :: (vs ++ zs)) (Value.ref (s.heap.objs.size + 1) :: (us ++ ws)) := .cons rfl (r.append rz)
  have e1 : (Value.ref (s.heap.objs.size + 1) :: us).length = n + 1 := r1.length.symm.trans (congrArg Nat.succ l1)
  have e2 : ws.length = ks.length := rz.length.symm.trans l2
  refine wpAny_call (make_map (f := fA) I.kIn M.makes M.init (beq_iff_eq.mp M.fn) (codeAny_mono (G.run _ X.stack _ _ ⟨Value.ref (s.heap.objs.size + 1) :: us, ks.zip ws⟩ (Value.ref (s.heap.objs.size + 1) :: (us ++ ws)) _ _ (E σ) (hr.make C us (ks.zip ws))
    (I2.env0.make C us (ks.zip ws)) (hb _ (Value.ref (s.heap.objs.size + 1) :: us) ws e1 e2) r2 hq) fun r s' hq' => ?_))
  cases r with
  | error e => exact hx pins _ _ e s' I2 hq'
  | ok fl =>
    cases fl with
    | ret u =>
      obtain ⟨v, H', I3, rv, ev, q3⟩ := I2.after hq'
      subst ev
      exact ⟨rv, ⟨V.ref (s.heap.objs.size + 1), H', I3, rfl, q3⟩⟩
    | next => exact False.elim hq'
    | brk => exact False.elim hq'
    | cont => exact False.elim hq'
theorem pe_makeS {CX : CXT} {E : L2.St → XK} {sp : Sp} {t tk : TA} (M : Mk X.K C fA) (G : FnOk X.prog X.w X.K X.mg X.base CX k fA fd ps sp) (hr : Room (k + 1) X.A) (hg : Gl X x) (hm : X.mg x = some (.ref C))
    (hb : ∀ (s : Shared) (us ws : List Value), us.length = n + 1 → ws.length = ks.length → BindsTo s fd ⟨us, ks.zip ws⟩ (ps.zip (us ++ ws))) (hx : ∀ σ, PassesAt CX X σ (E σ))
    (ha : PA X (e :: es) t) (hkw : PK X kws tk) (hall : (backToKw pos (keywordEach kws X.env)).all (·.1.isSome) = true := by rfl) (hks : (backToKw pos (keywordEach kws X.env)).filterMap (·.1) = ks := by rfl)
    (hdb : (x == ("__debug__" : Str)) = false := by decide) (he : starEach (e :: es) X.env = (false, eval e X.env) :: starEach es X.env := by rfl)
    (hpl : ((backTo pos (starEach (e :: es) X.env)).any (·.1) || (backToKw pos (keywordEach kws X.env)).any (·.1.isNone)) = false := by rfl) :
    PE X (.Call (.Name x p) (e :: es) kws pos) (tMakeS C n ks.length sp E t tk) := by
  refine ⟨fun pins s σ H Q I h => ?_⟩
  refine wpAny_Call_Name_kw (ld_glob I hg hm ?_ hdb)
  refine PySem.W.callWith_KW (h₀ := X.base) I.ok.mod.kin M.kp hall (thn (ha.run pos pins s σ H _ I h) fun us s1 ⟨vs, H1, I1, r, q⟩ => ?_) hpl he
  refine thn (hkw.run pos pins s1 σ H1 _ I1 q) fun ws s2 ⟨zs, H2, I2, rz, l1, l2, q2⟩ => ⟨I2.kIn, ?_⟩
  rw [hks]
  exact run_makeS M G hr hb (hx σ) I2 r rz l1 l2 q2
def SK (X : Cx) (W : WX) (kws : List Keyword) (fk : List FE) : Prop := PK X kws (tSA X.K X.mg W (evalL fk))
theorem PK.imp {X : Cx} {e : List Keyword} {t t' : TA} (h : PK X e t) (k : ∀ σ H Q, t' σ H Q → t σ H Q) : PK X e t' := ⟨fun pos pins s σ H Q I q => h.run pos pins s σ H Q I (k _ _ _ q)⟩
theorem sk_nil : SK X W [] [] := PK.imp pk_nil fun σ H Q ⟨m, s, h, r, rs, p⟩ => p m H [] (Grow.refl _ _) r .nil
theorem sk_cons {nm : Option Str} {kpos : Pos} {f : FE} (ha : SE X W e f) (hr : SK X W kws fk) : SK X W (⟨nm, e, kpos⟩ :: kws) (f :: fk) := by
  refine PK.imp (pk_cons ha hr) fun σ H Q h => ?_
  obtain ⟨m, s, h, R0, rs, p⟩ := h
  refine ⟨m, s, h, R0, rs, ?_⟩
  unfold evalL at p
  generalize f s h = r at p
  cases r with
  | ok d h1 =>
    intro m1 H1 v g1 R1 rv
    refine ⟨m1, s, h1, R1, rs.grow g1, ?_⟩
    replace p := PostA.grow p g1
    dsimp only at p
    generalize evalL fk s h1 = r2 at p
    cases r2 with
    | ok ds h2 => exact fun m2 H2 vs g2 R2 rvs => p m2 H2 (v :: vs) g2 R2 (.cons (rv.grow g2) rvs)
    | exc c fs h1 => exact p
    | bad => exact p
  | exc c fs h1 => exact p
  | bad => exact p
/-- a new instance of the class c -/
def dMake (c : Str) (F : FF) (ds : List D) (h : Hm) : RD := match F (.ref h.length :: ds) (h ++ [.ins c []]) with
  | .ok .non h2 => .ok (.ref h.length) h2
  | .ok _ _ => .bad
  | r => r
def eMake (c : Str) (F : FF) (fs fk : List FE) : FE := fun s h => match evalL fs s h with
  | .ok ds h1 => (match evalL fk s h1 with
    | .ok es h2 => dMake c F (ds ++ es) h2
    | .exc c x h1 => .exc c x h1
    | .bad => .bad)
  | .exc c x h1 => .exc c x h1
  | .bad => .bad
theorem se_make (M : Mk X.K C fA) (G : FnS X k fA fd ps F) (tk : Takes X W) (hr : Room (k + 1) X.A) (hg : Gl X x) (hm : X.mg x = some (.ref C))
    (hb : ∀ (s : Shared) (us ws : List Value), us.length = n + 1 → ws.length = ks.length → BindsTo s fd ⟨us, ks.zip ws⟩ (ps.zip (us ++ ws)))
    (ha : SA X W (e :: es) (evalL fs)) (hkw : SK X W kws fk) (hn : decide (fs.length = n) = true := by rfl) (hk2 : decide (fk.length = ks.length) = true := by rfl) (hps : decide (n + ks.length + 1 = ps.length) = true := by rfl)
    (hall : (backToKw pos (keywordEach kws X.env)).all (·.1.isSome) = true := by rfl) (hks : (backToKw pos (keywordEach kws X.env)).filterMap (·.1) = ks := by rfl)
    (hdb : (x == ("__debug__" : Str)) = false := by decide) (he : starEach (e :: es) X.env = (false, eval e X.env) :: starEach es X.env := by rfl)
    (hpl : ((backTo pos (starEach (e :: es) X.env)).any (·.1) || (backToKw pos (keywordEach kws X.env)).any (·.1.isNone)) = false := by rfl) :
    SE X W (.Call (.Name x p) (e :: es) kws pos) (eMake x F fs fk) := by
  refine PE.imp (pe_makeS M G hr hg hm hb (fun σ => passAt tk σ) ha hkw hall hks hdb he hpl) fun σ H Q h => ?_
  obtain ⟨m, s, h, R0, rs, p⟩ := h
  refine ⟨m, s, h, R0, rs, ?_⟩
  have hn := of_decide_eq_true hn
  have hk2 := of_decide_eq_true hk2
  have hps := of_decide_eq_true hps
  unfold eMake at p
  generalize q1 : evalL fs s h = r1 at p
  cases r1 with
  | ok ds h1 =>
    intro m1 H1 vs g1 R1 rvs
    refine ⟨m1, s, h1, R1, rs.grow g1, ?_⟩
    replace p := PostE.grow p g1
    try dsimp only at p
    generalize q2 : evalL fk s h1 = r2 at p
    cases r2 with
    | ok zs h2 =>
      intro m2 H2 ws g2 R2 rws
      replace p := PostE.grow p g2
      try dsimp only at p
      refine ⟨by rw [rvs.length, evalL_length q1]; exact hn, by rw [rws.length, evalL_length q2]; exact hk2, fun y dx hy hdx ne => ?_⟩
      have g3 : Grow m2 H2 m2 (upd H2 dx (.own y)) := Grow.new hdx
      have R3 : R X.K X.mg m2 (upd H2 dx (.own y)) h2 := R2.tup hdx
      have hy3 : upd H2 dx (.own y) y = none := by rw [upd_ne (Ne.symm ne)]; exact hy
      have g4 : Grow m2 (upd H2 dx (.own y)) (m2 ++ [y]) (upd (upd H2 dx (.own y)) y (.ins C dx [])) := Grow.newr hy3
      have R4 : R X.K X.mg (m2 ++ [y]) (upd (upd H2 dx (.own y)) y (.ins C dx [])) (h2 ++ [.ins x []]) := R3.new hy3 ⟨C, dx, [], hm, upd_same, .nil⟩
      have g5 := g3.trans g4
      refine ⟨?_, m2 ++ [y], .ref h2.length :: (ds ++ zs), h2 ++ [.ins x []], R4, .cons (.ref R3.newAt) (((rvs.grow g2).app rws).grow g5), ?_⟩
      · rw [List.length_cons, List.length_append, rvs.length, rws.length, evalL_length q1, evalL_length q2, hn, hk2]
        exact hps
      · replace p := PostE.grow p g5
        have nn : (m2 ++ [y])[h2.length]? = some y := R3.newAt
        unfold dMake at p
        generalize F (.ref h2.length :: (ds ++ zs)) (h2 ++ [.ins x []]) = r at p
        cases r with
        | ok d h6 =>
          cases d with
          | non => exact fun m6 H6 v g6 R6 rep => ⟨rep.non_inv, p m6 H6 _ g6 R6 (.ref (g6.loc _ _ nn))⟩
          | _ => exact False.elim p
        | exc c fs h6 => exact p
        | bad => exact False.elim p
    | exc c fs h1 => exact p
    | bad => exact p
  | exc c fs h1 => exact p
  | bad => exact p
end
end Sh

set_option Elab.async false
set_option linter.all false
set_option maxRecDepth 100000
set_option maxHeartbeats 4000000
namespace Sh
open PySem L2 PyProof.Rows
/-! ### enumerate -/
section
open Sem (wp)
open AutoSeq1 (wpAny_loadPart')
theorem meets_enum1 {v : Value} {o : Obj} {H : Heap → Prop} (B : Begins v o H) :
    Meets (Builtin.«enumerate.__new__» ⟨[.type "enumerate", v], []⟩) (fun _ R s => H s.heap ∧
      R (.ok (.ret (.ref (s.heap.push o).objs.size))) { s with heap := (s.heap.push o).push { cls := .type "enumerate", data := .fields #[.none, .bool false, .ref s.heap.objs.size, rawInt 0, .none, .none] } }) :=
  .of_wp fun prog w A R s h => by
    obtain ⟨hp, g, d, tk, os⟩ := s; obtain ⟨h1, h⟩ := h
    have hsub := sub_enumerate
    have q1 : ∀ {A' : Around} {E : Value → Shared → Prop} {Q : Value → Shared → Prop}, Q (.ref hp.objs.size) ⟨hp.push o, g, d, tk, os⟩ → wpAny (model prog w) A' (pyIter v) Q E ⟨hp, g, d, tk, os⟩ :=
      fun q => B.iter prog w _ _ ⟨hp, g, d, tk, os⟩ _ h1 q
    wp_walk using q1
    refine wpAny_stack_any fun st => wpAny_pure ?_
    split
    · rename_i c _ _ _ _ _
      cases (c == Value.type "enumerate")
      · wp_walk using q1
        exact ⟨_, rfl, h⟩
      · wp_walk using q1
        exact ⟨_, rfl, h⟩
    · wp_walk using q1
      exact ⟨_, rfl, h⟩
theorem call_enum1 {prog : Program} {w : World} {A : Around} {E : Value → Shared → Prop} {s : Shared} {v : Value} {o : Obj} {H : Heap → Prop} {Q : Value → Shared → Prop} (B : Begins v o H) (h1 : H s.heap)
    (h : ∀ h', IsEnum h' (s.heap.objs.size + 1) s.heap.objs.size 0 .none → h'.get? s.heap.objs.size = some o → h'.objs.size = s.heap.objs.size + 2 →
      (∀ b o, s.heap.get? b = some o → h'.get? b = some o) → Q (.ref (s.heap.objs.size + 1)) { s with heap := h' }) :
    wpAny (model prog w) A (call (.type "enumerate") [v]) Q E s := by
  refine callType_new F.called_enumerate (by decide) (F.typeCall_enumerate_1 _) (F.newCall_enumerate_1 _) (fun obj => F.args_object_init_2 obj _) F.entry_enumerate_new
    (meets_enum1 B) ⟨h1, ?_⟩
  have hz : (s.heap.push o).objs.size = s.heap.objs.size + 1 := Heap.size_push ..
  show _ ∧ _
  rw [hz]
  have he : IsEnum ((s.heap.push o).push { cls := .type "enumerate", data := .fields #[.none, .bool false, .ref s.heap.objs.size, rawInt 0, .none, .none] }) (s.heap.objs.size + 1) s.heap.objs.size 0 .none := by
    have := Heap.get?_push_size (s.heap.push o) (o := { cls := .type "enumerate", data := .fields #[.none, .bool false, .ref s.heap.objs.size, rawInt 0, .none, .none] }) rfl
    rw [hz] at this; exact this
  refine ⟨⟨_, he, rfl⟩, h _ he (Heap.get?_push_of_some _ (Heap.get?_push_size _ B.free)) (by rw [Heap.size_push, hz]) fun b o x => Heap.get?_push_of_some _ (Heap.get?_push_of_some _ x)⟩
end
/-- the tuple at a, each item in a new pair -/
def Itet (K : PySem.W.Frag) (a : Addr) : It :=
  ⟨fun i H => ∃ (xs : List V) (x : V), SqT K H a xs ∧ xs[i]? = some x, fun i H v H' => ∃ T x, v = .ref T ∧ H T = none ∧ H' = upd H T (.tup [.int (i : Nat), x]) ∧ ∀ xs, SqT K H a xs → xs[i]? = some x, fun i H => ∃ xs : List V, SqT K H a xs ∧ xs.length ≤ i⟩
theorem turn_enumT {P : Program} {w : World} {K : PySem.W.Frag} {elts : List Expr} {kk : Nat} {tpos : Pos} (a e it : Addr) :
    Turn P w K (.Tuple elts kk tpos) (Itet K a) [e, it] e (fun i h => (∃ old, IsEnum h e it ((i : Nat) : Int) old) ∧ h.IsTupleIter it a i ∧ e ≠ it ∧ e ≠ a ∧ a ≠ it) where
  mem := by simp
  obj := fun i h st b hb => by
    obtain ⟨⟨old, he⟩, ⟨o, ho, hc, hd⟩, _⟩ := st
    have e' : b = e ∨ b = it := by simpa using hb
    rcases e' with z | z
    · rw [z]; exact ⟨_, he, fun v q => nomatch q⟩
    · rw [z]; exact ⟨o, ho, fun v q => by rw [hd] at q; cases q⟩
  keep := fun i h h' st k => let ⟨⟨old, he⟩, hi, hne⟩ := st; ⟨⟨old, k e (by simp) _ he⟩, hi.at fun o q => k it (by simp) o q, hne⟩
  item := by
    intro X hP hw hK hc i pins s σ H E I hf st hg
    subst hP hw hK
    obtain ⟨⟨old, he⟩, hit, hne, hea, hai⟩ := st
    obtain ⟨xs, x, hq, hx⟩ := hg
    obtain ⟨its, rv, p, hz⟩ := I.tuple hq
    obtain ⟨u, hu, ru⟩ := rv.get hx
    have hel : e < s.heap.objs.size := Heap.lt_size he
    have hil : it < s.heap.objs.size := by obtain ⟨_, q, _⟩ := hit; exact Heap.lt_size q
    have hlt : i < its.toArray.size := by
      have := (List.getElem?_eq_some_iff.mp hu).1
      simpa using this
    refine wpAny_pyNext_enum_itemD (Draws.tuple (A := X.A.in1) (I.ok.hd hc) it a hai its.toArray) he ⟨hit, show s.heap.IsTuple a its.toArray from p⟩ hlt hne (by simp [hne, hea]) fun y h' tk hy ho hst hT hsz hk => ?_
    have ey : y = u := by
      have q : its[i]? = some y := by simpa using hy
      rw [hu] at q
      exact (Option.some.inj q).symm
    subst ey
    have hit' : h'.IsTupleIter it a (i + 1) := hst.1
    refine ⟨_, rfl, wpAny_letOwnedTupleGo_enum (s := { s with heap := h', toks := tk + 1 }) ho fun h'' he' sb => ?_⟩
    have hT2 : h''.get? s.heap.objs.size = some { cls := .type "tuple", data := .seq #[.int i tk, y] } := (sb.2 _ (Nat.ne_of_gt hel)).trans hT
    have new : ObjOk X.prog X.w (upd H s.heap.objs.size (.tup [.int (i : Nat), x])) h'' s.heap.objs.size (.tup [.int (i : Nat), x]) :=
      ⟨by show 2 ≤ sizeLine; decide, [.int i tk, y], .cons ⟨_, rfl⟩ (.cons ru .nil), ⟨_, hT2, rfl, _, rfl⟩⟩
    have I1 : Inv X pins σ (upd H s.heap.objs.size (.tup [.int (i : Nat), x])) { s with heap := h'', toks := tk + 1 } :=
      I.turnedNew (ch := [e, it]) (fun b ob hb q => (sb.2 b (fun z => hb (by simp [z]))).trans (hk b ob (fun z => hb (by simp [z])) (fun z => hb (by simp [z])) q)) hf (Nat.le_refl _) new
    refine ⟨.ref s.heap.objs.size, _, I1, rfl, ⟨_, x, rfl, I.hok.fresh (Nat.le_refl _), rfl, fun ys hy => by rw [I.tuple_inj hy hq]; exact hx⟩, ⟨⟨y, ?_⟩, hit'.at fun o q => (sb.2 it (Ne.symm hne)).trans q, hne, hea, hai⟩, fun b hb => ?_⟩
    · have e1 : ((i + 1 : Nat) : Int) = (i : Int) + 1 := by omega
      rw [e1]; exact he'
    · have hb' : b < s.heap.objs.size := by
        have e' : b = e ∨ b = it := by simpa using hb
        rcases e' with z | z
        · rw [z]; exact hel
        · rw [z]; exact hil
      rw [upd_ne (Nat.ne_of_lt hb')]
      exact (hf b hb).1
  done := by
    intro X hP hw hK hc i pins s σ H E I hf st hg
    subst hP hw hK
    obtain ⟨⟨old, he⟩, hit, hne, hea, hai⟩ := st
    obtain ⟨xs, hq, hx⟩ := hg
    obtain ⟨its, rv, p, hz⟩ := I.tuple hq
    obtain ⟨f0, f1, f2, f3, f4, f5⟩ := hf it (by simp)
    have hl := rv.length
    unfold pyNext
    have hT : s.TypeIs (.ref e) "enumerate" := ⟨_, he, rfl⟩
    refine wpAny_bind (wpAny_attempt (wpAny_callSpecial?_slot (name := Str.ofString "__next__") hT F.slot_enumerate_next
      (wpAny_call_entry F.slot_enumerate_next hT F.entry_enumerate_next ?_ (F.args_enumerate_next_1 _))))
    show wpAny _ _ (field (.ref e) 2 >>= _) _ _ _
    refine wpAny_bind (wpAny_field he rfl (x := .ref it) rfl ?_)
    refine wpAny_bind (wpAny_nextOf_tuple_end (A := X.A.in1) (I.ok.hd hc) hit (show s.heap.IsTuple a its.toArray from p) (by simp; omega) fun h' e0 eb hsi => ?_)
    obtain ⟨o, ho, hc⟩ := hsi
    refine wpAny_bind (wpAny_isInstance (T := "StopIteration") (b := true) ⟨o, ho, hc⟩ isSubtype_stop ?_)
    exact wpAny_pure ⟨rfl, I.turned (t' := s.toks) (fun b o hb q => eb b o hb q) f0 f1 f3 f4 f5⟩
  self := fun A i s Q E st h => let ⟨⟨_, he⟩, _⟩ := st; wpAny_pyIter_enum he h
section
variable {X : Cx} {W : WX} {e : Expr} {f : FE} {p pos tpos : Pos} {elts : List Expr} {kk : Nat}
/-- of a list or a tuple -/
theorem pi_enumS {ta : TA} (hg : Gl X "enumerate") (hm : X.mg "enumerate" = none) (ha : PA X [e] ta) (hs : starEach [e] X.env = [(false, eval e X.env)] := by rfl) :
    PI X (.Tuple elts kk tpos) (.Call (.Name "enumerate" p) [e] [] pos) (fun σ H R => ta σ H fun vs H1 => ∃ x, vs = [x] ∧ ∃ a, x = .ref a ∧ (((∃ xs, SqL X.K H1 a xs) ∧ R (Ite X.K a) H1) ∨ ((∃ xs, SqT X.K H1 a xs) ∧ R (Itet X.K a) H1))) := by
  refine ⟨fun pins s σ H R I h => ?_⟩
  refine Call_ (ld_blt I hg hm boot_enumerate (PyProof.Rows.callWith_type1 (thn (ha.run pos pins s σ H _ I h) fun us s1 ⟨vs, H1, I1, r1, x, q0, q1⟩ => ?_) hs rfl))
  subst q0
  obtain ⟨a, ex, q⟩ := q1
  subst ex
  cases r1 with
  | cons r rr =>
    cases rr
    cases r
    rcases q with ⟨⟨xs, hq⟩, q⟩ | ⟨⟨xs, hq⟩, q⟩
    · obtain ⟨its, rv, p', hz⟩ := I1.list hq
      refine call_enumerate_list p'.isList fun h' he hit hsz hk => wpAny_pyIter_enum he ?_
      have I2 : Inv X pins σ H1 { s1 with heap := h' } := I1.kept (t' := s1.toks) hk
      refine ⟨s1.heap.objs.size + 1, [s1.heap.objs.size + 1, s1.heap.objs.size], _, _, H1, rfl, I2, turn_enum a (s1.heap.objs.size + 1) s1.heap.objs.size, ⟨⟨.none, he⟩, hit, Nat.succ_ne_self _⟩, fun b hb => ?_, q⟩
      have e' : b = s1.heap.objs.size + 1 ∨ b = s1.heap.objs.size := by simpa using hb
      have hle : s1.heap.objs.size ≤ b := by
        rcases e' with z | z
        · rw [z]; exact Nat.le_add_right _ _
        · rw [z]; exact Nat.le_refl _
      exact I1.fpOk hle (I1.hok.fresh hle)
    · obtain ⟨its, rv, p', hz⟩ := I1.tuple hq
      have hl : a < s1.heap.objs.size := by
        obtain ⟨ob, ho, _⟩ := (show s1.heap.IsTuple a its.toArray from p')
        exact Heap.lt_size ho
      refine call_enum1 (begins_tuple a its.toArray) (show s1.heap.IsTuple a its.toArray from p') fun h' he hit hsz hk => wpAny_pyIter_enum he ?_
      have I2 : Inv X pins σ H1 { s1 with heap := h' } := I1.kept (t' := s1.toks) hk
      refine ⟨s1.heap.objs.size + 1, [s1.heap.objs.size + 1, s1.heap.objs.size], _, _, H1, rfl, I2, turn_enumT a (s1.heap.objs.size + 1) s1.heap.objs.size, ⟨⟨.none, he⟩, ⟨_, hit, rfl, rfl⟩, Nat.succ_ne_self _, Nat.ne_of_gt (Nat.lt_succ_of_lt hl), Nat.ne_of_lt hl⟩, fun b hb => ?_, q⟩
      have e' : b = s1.heap.objs.size + 1 ∨ b = s1.heap.objs.size := by simpa using hb
      have hle : s1.heap.objs.size ≤ b := by
        rcases e' with z | z
        · rw [z]; exact Nat.le_add_right _ _
        · rw [z]; exact Nat.le_refl _
      exact I1.fpOk hle (I1.hok.fresh hle)
def enD : Nat → List D → List D
  | _, [] => []
  | i, d :: ds => .tup [.int (i : Nat), d] :: enD (i + 1) ds
theorem enD_get : ∀ {ds : List D} {k i : Nat}, (enD k ds)[i]? = (ds[i]?).map fun d => .tup [.int ((k + i : Nat) : Nat), d]
  | [], k, i => by simp [enD]
  | d :: ds, k, 0 => by simp [enD]
  | d :: ds, k, i + 1 => by
    have e : k + 1 + i = k + (i + 1) := by omega
    simp only [enD, List.getElem?_cons_succ]
    rw [enD_get, e]
theorem enD_length : ∀ {ds : List D} {k : Nat}, (enD k ds).length = ds.length
  | [], k => rfl
  | d :: ds, k => by simp [enD, enD_length]
def iEn (d : D) (h : Hm) : RI := match d with
  | .tup ds => .ok (enD 0 ds) none h
  | .ref n => match items h (.ref n) with
    | some ds => .ok (enD 0 ds) (some (n, ds)) h
    | none => .bad
  | _ => .bad
def fiEn (f : FE) : FI := fun s h => (f s h).it iEn
theorem walk_enumL {K : PySem.W.Frag} {mg : Str → Option Value} {m : List Addr} {H : Hp} {n : Nat} {a : Addr} {ds : List D} (hm : m[n]? = some a) : WalkD K mg true (Ite K a) (enD 0 ds) (some (n, ds)) m H := by
  intro i m' H' h g r hc
  obtain ⟨vs, hq, l⟩ := items_ref r (g.loc _ _ hm) (chkB_ok hc)
  refine ⟨fun x hx => ?_, fun hle => ⟨vs, hq, by rw [l.length]; rw [enD_length] at hle; exact hle⟩⟩
  rw [enD_get] at hx
  obtain ⟨d, hd, rfl⟩ := Option.map_eq_some_iff.mp hx
  obtain ⟨v, hv, rv⟩ := l.get hd
  refine ⟨⟨vs, v, hq, hv⟩, fun v' H2 hy => ?_⟩
  obtain ⟨T, w, rfl, hT, rfl, hy⟩ := hy
  have e := hy vs hq
  rw [hv] at e
  cases e
  refine ⟨Grow.new hT, r.tup hT, .inr ⟨rfl, T, _, _, rfl, .inl (.inl upd_same), .cons (.int _) (.cons (rv.grow (Grow.new hT)) .nil), ?_⟩⟩
  rw [Nat.zero_add]
theorem walk_enumT {K : PySem.W.Frag} {mg : Str → Option Value} {m : List Addr} {H : Hp} {a : Addr} {ds : List D} {vs : List V} (ht : TupS K H a vs) (l : RepL K m H vs ds) : WalkD K mg true (Itet K a) (enD 0 ds) none m H := by
  intro i m' H' h g r hc
  have hq := (g.tupS ht).sqT
  replace l := l.grow g
  refine ⟨fun x hx => ?_, fun hle => ⟨vs, hq, by rw [l.length]; rw [enD_length] at hle; exact hle⟩⟩
  rw [enD_get] at hx
  obtain ⟨d, hd, rfl⟩ := Option.map_eq_some_iff.mp hx
  obtain ⟨v, hv, rv⟩ := l.get hd
  refine ⟨⟨vs, v, hq, hv⟩, fun v' H2 hy => ?_⟩
  obtain ⟨T, w, rfl, hT, rfl, hy⟩ := hy
  have e := hy vs hq
  rw [hv] at e
  cases e
  refine ⟨Grow.new hT, r.tup hT, .inr ⟨rfl, T, _, _, rfl, .inl (.inl upd_same), .cons (.int _) (.cons (rv.grow (Grow.new hT)) .nil), ?_⟩⟩
  rw [Nat.zero_add]
theorem si_enum (hg : Gl X "enumerate") (hm : X.mg "enumerate" = none) (he : SE X W e f) (hs : starEach [e] X.env = [(false, eval e X.env)] := by rfl) (hs2 : starEach [e] X.env = (false, eval e X.env) :: starEach [] X.env := by rfl) :
    SI X W true (.Tuple elts kk tpos) (.Call (.Name "enumerate" p) [e] [] pos) (fiEn f) := by
  refine PI.imp (pi_enumS hg hm (pa_cons he pa_nil hs2) hs) fun σ H Q h => ?_
  obtain ⟨m, s, h, R0, rs, p⟩ := h
  refine ⟨m, s, h, R0, rs, PostE.mono (PostI.ofE p) ?_⟩
  rintro x H1 ⟨m1, dx, h1, g1, R1, rx, p1⟩
  refine ⟨x, rfl, ?_⟩
  unfold iEn at p1
  split at p1
  · obtain ⟨a, vs, rfl, t, l⟩ := rx.tup_inv
    exact ⟨a, rfl, .inr ⟨⟨vs, t.sqT⟩, p1 m1 H1 _ (Grow.refl _ _) R1 (walk_enumT t l)⟩⟩
  · split at p1
    · rename_i ds hi
      obtain ⟨a, rfl, hm⟩ := rx.ref_inv
      obtain ⟨vs, hq, l⟩ := items_ref R1 hm hi
      exact ⟨a, rfl, .inl ⟨⟨vs, hq⟩, p1 m1 H1 _ (Grow.refl _ _) R1 (walk_enumL hm)⟩⟩
    · exact False.elim p1
  · exact False.elim p1
end
end Sh

set_option Elab.async false
set_option linter.all false
set_option maxRecDepth 100000
set_option maxHeartbeats 4000000
namespace Sh
open PySem L2 PyProof.Rows
/-! ### dicts with keys that are ints or texts -/
section
variable {X : Cx} {W : WX} {o i e b c : Expr} {fo fi f fb fc : FE} {pos pos' apos cpos p : Pos}
def eDnew : FE := fun _ h => .ok (.ref h.length) (h ++ [.dk []])
theorem se_dnew : SE X W (.Dict [] [] pos) eDnew := PE.imp pe_dnewK fun σ H Q ⟨m, s, h, r, rs, p⟩ q hq =>
  p _ _ _ (Grow.newr hq) (r.new hq ⟨[], upd_same, .nil⟩) (.ref r.newAt)
def keyD : D → Option Key
  | .int i => some (.inl i)
  | .str x => some (.inr x)
  | _ => none
theorem keyD_rep {K : PySem.W.Frag} {m : List Addr} {H : Hp} {v : V} {d : D} {k : Key} (r : Rep K m H v d) (e : keyD d = some k) : v = kV k := by
  cases r <;> simp [keyD] at e <;> subst e <;> rfl
def valD (kvs : List (Key × D)) (k : Key) : Option D := (kvs.find? fun kv => decide (kv.1 = k)).map (·.2)
def putKD (kvs : List (Key × D)) (k : Key) (v : D) : List (Key × D) :=
  if (kvs.any fun kv => decide (kv.1 = k)) = true then kvs.map (fun kv => if kv.1 = k then (kv.1, v) else kv) else kvs ++ [(k, v)]
section
variable {K : PySem.W.Frag} {m : List Addr} {H : Hp}
theorem RepK.val (k : Key) : ∀ {x : List (Key × V)} {y : List (Key × D)}, RepK K m H x y → (valV x k = none ∧ valD y k = none) ∨ ∃ v d, valV x k = some v ∧ valD y k = some d ∧ Rep K m H v d
  | _, _, .nil => .inl ⟨rfl, rfl⟩
  | (k1, v) :: x, (k2, d) :: y, .cons q t => by
    obtain ⟨e1, q⟩ := q
    simp only at e1
    subst e1
    by_cases e : k1 = k
    · subst e
      exact .inr ⟨v, d, by simp [valV], by simp [valD], q⟩
    · rcases RepK.val k t with ⟨a, b⟩ | ⟨v, d, a, b, r⟩
      · exact .inl ⟨by simpa [valV, List.find?_cons, e] using a, by simpa [valD, List.find?_cons, e] using b⟩
      · exact .inr ⟨v, d, by simpa [valV, List.find?_cons, e] using a, by simpa [valD, List.find?_cons, e] using b, r⟩
theorem RepK.any (k : Key) : ∀ {x : List (Key × V)} {y : List (Key × D)}, RepK K m H x y → (x.any fun kv => decide (kv.1 = k)) = (y.any fun kv => decide (kv.1 = k))
  | _, _, .nil => rfl
  | (k1, v) :: x, (k2, d) :: y, .cons q t => by
    obtain ⟨e1, q⟩ := q
    simp only at e1
    subst e1
    simp only [List.any_cons, RepK.any k t]
theorem RepK.mapP (k : Key) {v : V} {d : D} (r : Rep K m H v d) : ∀ {x : List (Key × V)} {y : List (Key × D)}, RepK K m H x y → RepK K m H (x.map fun kv => if kv.1 = k then (kv.1, v) else kv) (y.map fun kv => if kv.1 = k then (kv.1, d) else kv)
  | _, _, .nil => .nil
  | (k1, v) :: x, (k2, d) :: y, .cons q t => by
    obtain ⟨e1, q⟩ := q
    simp only at e1
    subst e1
    refine .cons ?_ (RepK.mapP k r t)
    by_cases e : k1 = k
    · simp only [e, if_true]; exact ⟨trivial, r⟩
    · simp only [e, if_false]; exact ⟨trivial, q⟩
theorem RepK.app : ∀ {x x' : List (Key × V)} {y y' : List (Key × D)}, RepK K m H x y → RepK K m H x' y' → RepK K m H (x ++ x') (y ++ y')
  | _, _, _, _, .nil, s => s
  | _, _, _, _, .cons r t, s => .cons r (RepK.app t s)
theorem RepK.put (k : Key) {v : V} {d : D} (r : Rep K m H v d) {x : List (Key × V)} {y : List (Key × D)} (t : RepK K m H x y) : RepK K m H (putK x k v) (putKD y k d) := by
  unfold putK putKD
  rw [RepK.any k t]
  split
  · exact t.mapP k r
  · exact t.app (.cons ⟨rfl, r⟩ .nil)
theorem RepK.len {x : List (Key × V)} {y : List (Key × D)} (t : RepK K m H x y) : x.length = y.length := Paired.length t
end
/-- d[k] = v -/
def gDput (fo fi fv : FE) : FS := fun s h => (fv s h).st s fun v h1 => (fo s h1).st s fun d h2 => (fi s h2).st s fun y h3 => match d, keyD y with
  | .ref n, some k => (match h3[n]? with
    | some (.dk kvs) => if kvs.length < big then .nx s (h3.set n (.dk (putKD kvs k v))) else .bad
    | _ => .bad)
  | _, _ => .bad
theorem ss_dput {k : Nat} (hr : Room k X.A) (ho : SE X W o fo) (hi : SE X W i fi) (hv : SE X W e f) (hs : swapsWith e (some (.Subscript o i pos')) pos.line X.env = pure false := by rfl) : SS X W (.Assign [.Subscript o i pos'] e pos) (gDput fo fi f) := by
  have hu := hr.units
  refine PS.imp (ps_dput (by omega) ho hi hv hs) fun D σ H h => ?_
  obtain ⟨m, s, h, R0, rs, p⟩ := h
  refine ⟨m, s, h, R0, rs, PostE.mono (PostS.ofE rs p) ?_⟩
  rintro v H1 ⟨m1, dv, h1, g1, R1, rv, p1⟩
  refine ⟨m1, s, h1, R1, rs.grow g1, PostE.mono (PostS.ofE (rs.grow g1) p1) ?_⟩
  rintro x H2 ⟨m2, dx, h2, g2, R2, rx, p2⟩
  refine ⟨m2, s, h2, R2, (rs.grow g1).grow g2, PostE.mono (PostS.ofE ((rs.grow g1).grow g2) p2) ?_⟩
  rintro y H3 ⟨m3, dy, h3, g3, R3, ry, p3⟩
  split at p3
  · rename_i n k hk
    split at p3
    · rename_i kvs hn
      split at p3
      · rename_i hl
        obtain ⟨a, rfl, hm⟩ := (rx.grow g3).ref_inv
        have xo := R3.ob _ _ _ hm hn
        obtain ⟨kv, q1, q2⟩ := id xo
        have ek := keyD_rep ry hk
        subst ek
        refine ⟨a, _, rfl, DPut.k q1 (by rw [q2.len]; exact Nat.lt_of_lt_of_le hl (big_line (Nat.le_refl _))), ?_⟩
        have g4 : Grow m3 H3 m3 (upd H3 a (.dK (putK kv k v))) := Grow.set xo rfl
        exact p3 m3 _ σ g4 (R3.set hm hn rfl ⟨putK kv k v, upd_same, ((q2.grow g4).put k ((rv.grow (g2.trans g3)).grow g4))⟩) ((rs.grow (g1.trans (g2.trans g3))).grow g4)
      · exact False.elim p3
    · exact False.elim p3
  · exact False.elim p3
/-- d.get(k), d.get(k, x); d[k], k there -/
def dGet (d y z : D) (h : Hm) : RD := match d, keyD y with
  | .ref n, some k => (match h[n]? with
    | some (.dk kvs) => .ok ((valD kvs k).getD z) h
    | _ => .bad)
  | _, _ => .bad
def dHas (d y : D) (h : Hm) : Option (Option D) := match d, keyD y with
  | .ref n, some k => (match h[n]? with
    | some (.dk kvs) => some (valD kvs k)
    | _ => none)
  | _, _ => none
def isDk (d : D) (h : Hm) : Bool := match d with
  | .ref n => (match h[n]? with
    | some (.dk _) => true
    | _ => false)
  | _ => false
theorem isDk_ok {m : List Addr} {H : Hp} {h : Hm} {x : V} {d : D} (R0 : R X.K X.mg m H h) (rx : Rep X.K m H x d) (e : isDk d h = true) : ∃ a, x = .ref a ∧ IsD H a := by
  unfold isDk at e
  split at e
  · split at e
    · rename_i n _ kvs hn
      obtain ⟨a, rfl, hm⟩ := rx.ref_inv
      obtain ⟨kv, q1, q2⟩ := R0.ob _ _ _ hm hn
      exact ⟨a, rfl, .inl ⟨kv, .inl q1⟩⟩
    · cases e
  · cases e
theorem dHas_ok {m : List Addr} {H : Hp} {h : Hm} {x y : V} {d dy : D} {r : Option D} (R0 : R X.K X.mg m H h) (rx : Rep X.K m H x d) (ry : Rep X.K m H y dy) (e : dHas d dy h = some r) :
    ∃ a o, x = .ref a ∧ DGet H a y o ∧ ((o = none ∧ r = none) ∨ ∃ v z, o = some v ∧ r = some z ∧ Rep X.K m H v z) := by
  unfold dHas at e
  split at e
  · rename_i n k hk
    split at e
    · rename_i kvs hn
      cases e
      obtain ⟨a, rfl, hm⟩ := rx.ref_inv
      obtain ⟨kv, q1, q2⟩ := R0.ob _ _ _ hm hn
      have ek := keyD_rep ry hk
      subst ek
      rcases q2.val k with ⟨h1, h2⟩ | ⟨v, z, h1, h2, h3⟩
      · exact ⟨a, none, rfl, by rw [← h1]; exact DGet.k q1, .inl ⟨rfl, h2⟩⟩
      · exact ⟨a, some v, rfl, by rw [← h1]; exact DGet.k q1, .inr ⟨v, z, rfl, h2, h3⟩⟩
    · cases e
  · cases e
def eDget1 (fo fi : FE) : FE := fun s h => (fo s h).bind fun d h1 => if isDk d h1 = true then (fi s h1).bind fun y h2 => match dHas d y h2 with
  | some r => .ok (r.getD .non) h2
  | none => .bad
  else .bad
def eDget2 (fo fi fx : FE) : FE := fun s h => (fo s h).bind fun d h1 => if isDk d h1 = true then (fi s h1).bind fun y h2 => (fx s h2).bind fun z h3 => match dHas d y h3 with
  | some r => .ok (r.getD z) h3
  | none => .bad
  else .bad
def eDix (fo fi : FE) : FE := fun s h => (fo s h).bind fun d h1 => (fi s h1).bind fun y h2 => match dHas d y h2 with
  | some (some v) => .ok v h2
  | _ => .bad
theorem se_dget1 {k : Nat} (hr : Room k X.A) (ho : SE X W o fo) (he : SE X W e fi) (m : M1 X o "get" apos e cpos) : SE X W (.Call (.Attribute o "get" apos) [e] [] cpos) (eDget1 fo fi) := by
  have hu := hr.units
  refine PE.imp (pe_dget1 (by omega) ho he m) fun σ H Q h => ?_
  obtain ⟨m, s, h, R0, rs, p⟩ := h
  refine ⟨m, s, h, R0, rs, PostE.mono (PostE.bind p) ?_⟩
  rintro x H1 ⟨m1, dx, h1, g1, R1, rx, p1⟩
  split at p1
  · rename_i hd
    obtain ⟨a, rfl, hD⟩ := isDk_ok R1 rx hd
    refine ⟨a, rfl, hD, m1, s, h1, R1, rs.grow g1, PostE.mono (PostE.bind p1) ?_⟩
    rintro y H2 ⟨m2, dy, h2, g2, R2, ry, p2⟩
    split at p2
    · rename_i r hr
      obtain ⟨a', o, e, g, q⟩ := dHas_ok R2 (rx.grow g2) ry hr
      cases e
      refine ⟨o, g, ?_⟩
      rcases q with ⟨rfl, rfl⟩ | ⟨v, z, rfl, rfl, rv⟩
      · exact p2.val R2 .non
      · exact p2.val R2 rv
    · exact False.elim p2
  · exact False.elim p1
theorem se_dget2 {k : Nat} (hr : Room k X.A) (ho : SE X W o fo) (he : SE X W e fi) (hf : SE X W b fb) (m : M2 X o "get" apos e b cpos) : SE X W (.Call (.Attribute o "get" apos) [e, b] [] cpos) (eDget2 fo fi fb) := by
  have hu := hr.units
  refine PE.imp (pe_dget2 (by omega) ho he hf m) fun σ H Q h => ?_
  obtain ⟨m, s, h, R0, rs, p⟩ := h
  refine ⟨m, s, h, R0, rs, PostE.mono (PostE.bind p) ?_⟩
  rintro x H1 ⟨m1, dx, h1, g1, R1, rx, p1⟩
  split at p1
  · rename_i hd
    obtain ⟨a, rfl, hD⟩ := isDk_ok R1 rx hd
    refine ⟨a, rfl, hD, m1, s, h1, R1, rs.grow g1, PostE.mono (PostE.bind p1) ?_⟩
    rintro y H2 ⟨m2, dy, h2, g2, R2, ry, p2⟩
    refine ⟨m2, s, h2, R2, (rs.grow g1).grow g2, PostE.mono (PostE.bind p2) ?_⟩
    rintro z H3 ⟨m3, dz, h3, g3, R3, rz, p3⟩
    split at p3
    · rename_i r hr
      obtain ⟨a', o, e, g, q⟩ := dHas_ok R3 (rx.grow (g2.trans g3)) (ry.grow g3) hr
      cases e
      refine ⟨o, g, ?_⟩
      rcases q with ⟨rfl, rfl⟩ | ⟨v, z, rfl, rfl, rv⟩
      · exact p3.val R3 rz
      · exact p3.val R3 rv
    · exact False.elim p3
  · exact False.elim p1
theorem se_dix {k : Nat} (hr : Room k X.A) (ho : SE X W o fo) (hi : SE X W i fi) (hs : NoSl i) : SE X W (.Subscript o i pos) (eDix fo fi) := by
  have hu := hr.units
  refine PE.imp (pe_dget (by omega) ho hi hs) fun σ H Q h => ?_
  obtain ⟨m, s, h, R0, rs, p⟩ := h
  refine ⟨m, s, h, R0, rs, PostE.mono (PostE.bind p) ?_⟩
  rintro x H1 ⟨m1, dx, h1, g1, R1, rx, p1⟩
  refine ⟨m1, s, h1, R1, rs.grow g1, PostE.mono (PostE.bind p1) ?_⟩
  rintro y H2 ⟨m2, dy, h2, g2, R2, ry, p2⟩
  split at p2
  · rename_i r hr
    obtain ⟨a', o, e, g, q⟩ := dHas_ok R2 (rx.grow g2) ry hr
    cases e
    rcases q with ⟨rfl, h0⟩ | ⟨v, z, rfl, h0, rv⟩
    · cases h0
    · cases h0
      exact ⟨a', v, rfl, g, p2.val R2 rv⟩
  · exact False.elim p2
end
end Sh

set_option Elab.async false
set_option linter.all false
set_option maxRecDepth 100000
set_option maxHeartbeats 4000000
namespace Sh
open PySem L2 PyProof.Rows L2.DX
open PySem.W (EachIs AllAlike Sortable dataLe)
/-! ### sorted(d.items()) -/
section
variable {X : Cx}
def rItemsK : V → List V → Hp → VK → Prop := fun x xs H Q => ∃ (a : Addr) (kvs : List (Key × V)), x = .ref a ∧ xs = [] ∧ H a = some (.dK kvs) ∧ ∀ p, H p = none → Q (.ref p) (upd H p (itemsO p a))
theorem mt_itemsK : MtR X "dict.items" rItemsK := by
  intro pins s σ H x xs v us Q I rx rxs h
  obtain ⟨a, kvs, rfl, rfl, ha, q⟩ := h
  cases rx
  cases rxs
  obtain ⟨z, hd, xs', rel, o, es, ep, ho, hx, hdat, _⟩ := dk_rd I.hok (.inl ha)
  refine DT.callItems (es := es) (ep := ep) hd ⟨o, ho, hx, hdat⟩ ?_
  have hf : H s.heap.objs.size = none := I.hok.fresh (Nat.le_refl _)
  exact ⟨.ref s.heap.objs.size, upd H s.heap.objs.size (itemsO s.heap.objs.size a), I.laid (t' := s.toks) (fun b u e => Heap.get?_push_of_some _ e) (Nat.le_refl _) (itemsO_ok (Heap.get?_push_size _ rfl)), rfl, q _ hf⟩
/-- things already laid are tracked -/
theorem takeF {pins : List (Addr × Obj)} {σ : L2.St} {H0 : Hp} {s : Shared} {h' : Heap} {tk : Nat} {P : Addr → HO → Prop} (I0 : Inv X pins σ H0 s) : ∀ (L : List Addr) (H1 : Hp), Inv X pins σ H1 { s with heap := h', toks := tk } → L.Nodup →
    (∀ a ∈ L, s.heap.objs.size ≤ a ∧ H1 a = none ∧ ∃ u, P a u ∧ ∀ H2, ObjOk X.prog X.w H2 h' a u) →
    ∃ H2, Inv X pins σ H2 { s with heap := h', toks := tk } ∧ (∀ b o, H1 b = some o → H2 b = some o) ∧ ∀ a ∈ L, ∃ u, P a u ∧ H2 a = some u
  | [], H1, I1, _, _ => ⟨H1, I1, fun _ _ e => e, fun _ h => nomatch h⟩
  | a :: L, H1, I1, hn, h => by
    obtain ⟨hb, hnone, u, hP, ok⟩ := h a (List.mem_cons_self ..)
    have I2 : Inv X pins σ (upd H1 a u) { s with heap := h', toks := tk } := I1.take (h' := h') (t' := tk) (fun b ob _ e => e) (I0.fpOk hb hnone) (ok _)
    rw [List.nodup_cons] at hn
    obtain ⟨H2, I3, g, q⟩ := takeF I0 L (upd H1 a u) I2 hn.2 fun c hc => by
      obtain ⟨c1, c2, c3⟩ := h c (List.mem_cons_of_mem _ hc)
      exact ⟨c1, by rw [upd_ne (fun z => hn.1 (by rw [← z]; exact hc))]; exact c2, c3⟩
    refine ⟨H2, I3, fun b o e => g b o (by rw [upd_ne (ne_of_none e hnone)]; exact e), fun c hc => ?_⟩
    rcases List.mem_cons.mp hc with rfl | hc
    · exact ⟨u, hP, g _ _ upd_same⟩
    · exact q c hc
def kP : Key → PyData
  | .inl i => .int i
  | .inr x => .str x
theorem pairs_at {prog : Program} {w : World} : ∀ {es : List DictEntry} {kvs : List (Key × Value)} {j : Nat} {e : DictEntry}, Pairs (mixKind prog w) es kvs → es[j]? = some e → ∃ p : Key × Value, kvs[j]? = some p ∧ keyIs p.1 e.key = true ∧ e.val = p.2
  | _, _, j, e, .nil, h => by simp at h
  | _, _, 0, e, .cons (kv := kv) h1 h2 _, h => by
    simp only [List.getElem?_cons_zero] at h
    cases h
    exact ⟨kv, rfl, h1, h2⟩
  | _, _, j + 1, e, .cons _ _ t, h => by
    simp only [List.getElem?_cons_succ] at h ⊢
    exact pairs_at t h
theorem pairs_len {prog : Program} {w : World} {es : List DictEntry} {kvs : List (Key × Value)} (h : Pairs (mixKind prog w) es kvs) : es.length = kvs.length := Pairs.length h
theorem key_reads {h : Heap} {k : Key} {v : Value} (e : keyIs k v = true) : Reads h v (kP k) [] := by
  rcases keyIs_shape e with ⟨i, t, rfl, rfl⟩ | ⟨x, t, rfl, rfl⟩
  · exact .int i t
  · exact .str x t
theorem key_rel {k : Key} {v : Value} (e : keyIs k v = true) : RelV (kV k) v := by
  rcases keyIs_shape e with ⟨i, t, rfl, rfl⟩ | ⟨x, t, rfl, rfl⟩
  · exact ⟨t, rfl⟩
  · exact ⟨t, rfl⟩
theorem each_of {α β : Type} {R : α → β → Prop} : ∀ {as : List α} {bs : List β}, as.length = bs.length → (∀ (j : Nat) a b, as[j]? = some a → bs[j]? = some b → R a b) → EachIs R as bs
  | [], [], _, _ => .nil
  | [], _ :: _, h, _ => by simp at h
  | _ :: _, [], h, _ => by simp at h
  | a :: as, b :: bs, h, k => .cons (k 0 a b rfl rfl) (each_of (by simpa using h) fun j x y h1 h2 => k (j + 1) x y (by simpa using h1) (by simpa using h2))
theorem each_mem' {α β : Type} {R : α → β → Prop} : ∀ {as : List α} {bs : List β}, EachIs R as bs → ∀ a ∈ as, ∃ b ∈ bs, R a b
  | _, _, .nil, a, h => nomatch h
  | _, _, .cons r t, a, h => by
    rcases List.mem_cons.mp h with rfl | h
    · exact ⟨_, List.mem_cons_self .., r⟩
    · obtain ⟨b, hb, q⟩ := each_mem' t a h
      exact ⟨b, List.mem_cons_of_mem _ hb, q⟩
abbrev KVP := (Key × V) × PyData
def rSortIK (K : PySem.W.Frag) : List V → Hp → VK → Prop := fun vs H Q => ∃ (p a : Addr) (bs : List KVP), vs = [.ref p] ∧ H p = some (itemsO p a) ∧ H a = some (.dK (bs.map (·.1))) ∧ bs.length ≤ big ∧
  (∀ b ∈ bs, ∃ d, Dp K H b.1.2 d ∧ b.2 = .tuple [kP b.1.1, d] ∧ b.2.depth ≤ 50) ∧ AllAlike (bs.map (·.2)) ∧
  ∀ (H' : Hp) (l : Addr) (qs : List Addr), (∀ b o, H b = some o → H' b = some o) → H l = none → H' l = some (.lst (qs.map V.ref)) →
    EachIs (fun q b => ∃ o, H' q = some (.frz o (.tup [kV b.1.1, b.1.2])) ∧ o.dict = none) qs (bs.mergeSort (dataLe false (·.2))) → Q (.ref l) H'
theorem reads_in {h : Heap} {v : Value} {d : PyData} {as : List Addr} {l : Addr} (r : Reads h v d as) (hl : h.objs.size ≤ l) : l ∉ as := fun z => by
  obtain ⟨o, ho⟩ := PyProof.On.reads_mem_get r l z
  exact absurd (Heap.lt_size ho) (Nat.not_lt.mpr hl)
theorem cr_sortIK (hc : X.calm = true) (hu : X.A.units + 64 < cLine) : CallR X (.builtin "sorted") (rSortIK X.K) := by
  intro pins s σ H xs us Q I r h
  obtain ⟨p, a, bs, rfl, hp, ha, h64, hbs, hal, q⟩ := h
  obtain rfl := Vals.ref1 r
  have view : s.heap.IsItemsView p a := (show ObjOk X.prog X.w H s.heap p (itemsO p a) from I.hok p _ hp).1
  obtain ⟨z, hd, xs', rel, o, es, ep, ho, hx, hdat, hkeys, hpairs, hnd⟩ := dk_rd I.hok (.inl ha)
  have l1 : bs.length = xs'.length := by have := Paired.length rel; simpa using this
  have l2 : es.size = xs'.length := by have := pairs_len hpairs; simpa using this
  have hh : X.A.handled = none := I.ok.hd hc
  refine DT.sortedI (es := es) (ep := ep) hh view ⟨o, ho, hx, hdat⟩ (by rw [l2, ← l1]; exact big_line h64) fun h' tk as hk hlt hl hG => ?_
  have las : as.length = bs.length := by omega
  have nd : as.Nodup := List.Pairwise.imp (fun h => Nat.ne_of_lt h) hG.rise
  -- the pairs that were made
  have pr : ∀ (j : Nat) (t : Addr), as[j]? = some t → ∃ (b : KVP) (kv vv : Value), bs[j]? = some b ∧ keyIs b.1.1 kv = true ∧ RelV b.1.2 vv ∧ h'.get? t = some { cls := .type "tuple", data := .seq #[kv, vv] } := by
    intro j t hj
    obtain ⟨en, he, hg⟩ := hG.pairs j t hj
    obtain ⟨pq, hpq, hkey, hval⟩ := pairs_at hpairs (j := j) (e := en) (by simpa using he)
    obtain ⟨kv, h0, h1, h2⟩ := pget rel hpq
    rw [List.getElem?_map] at h0
    obtain ⟨b, hb, rfl⟩ := Option.map_eq_some_iff.mp h0
    exact ⟨b, en.key, en.val, hb, by rw [h1]; exact hkey, by rw [hval]; exact h2, hg⟩
  have hob : (h'.push { cls := .type "list", data := .seq (as.map Value.ref).toArray }).get? h'.objs.size = some (seqObj "list" (as.map Value.ref).toArray 0) := Heap.get?_push_size _ rfl
  have kb : ∀ b o, s.heap.get? b = some o → (h'.push { cls := .type "list", data := .seq (as.map Value.ref).toArray }).get? b = some o := fun b o e => Heap.get?_push_of_some _ (hk b o e)
  have ne0 : ∀ b o, h'.get? b = some o → b ≠ h'.objs.size := fun b o e => Nat.ne_of_lt (Heap.lt_size e)
  generalize hh2 : h'.push { cls := .type "list", data := .seq (as.map Value.ref).toArray } = h2 at hob kb ⊢
  have ka : ∀ b o, h'.get? b = some o → h2.get? b = some o := fun b o e => by rw [← hh2]; exact Heap.get?_push_of_some _ e
  refine PySem.W.list_sort_data (s := { s with heap := h2, toks := tk }) (A := X.A.in1) (enc := fun b : KVP => b.2) (bs := bs) (R := fun v b => ∃ (j : Nat) (t : Addr), v = .ref t ∧ as[j]? = some t ∧ bs[j]? = some b)
    hob (each_of (by rw [List.length_map]; exact las) fun j v b h1 h2 => ?_) (each_of (by rw [List.length_map]; exact las) fun j v b h1 h2' => ?_) hal (.inl fun d hd => ?_) (big_line h64) (fun b hb => ?_) fun out hol hout => ?_
  · rw [List.getElem?_map] at h1
    obtain ⟨t, ht, rfl⟩ := Option.map_eq_some_iff.mp h1
    exact ⟨j, t, rfl, ht, h2⟩
  · rw [List.getElem?_map] at h1
    obtain ⟨t, ht, rfl⟩ := Option.map_eq_some_iff.mp h1
    obtain ⟨b', kv, vv, hb', hkey, hval, hg⟩ := pr j t ht
    obtain rfl : b' = b := Option.some.inj (hb'.symm.trans h2')
    obtain ⟨d, hd, e2, e4⟩ := hbs b' (List.mem_of_getElem? hb')
    obtain ⟨ws, hr⟩ := Dp.reads I d b'.1.2 vv hd hval
    have hr2 : Reads h2 vv d ws := Reads.keeps kb hr
    refine ⟨[] ++ (ws ++ []), ?_, ?_⟩
    · show Reads h2 (.ref t) b'.2 _
      rw [e2]
      exact Reads.tuple (ka _ _ hg) rfl rfl (.cons (key_reads hkey) (.cons hr2 .nil))
    · have := reads_in (l := h'.objs.size) hr (Nat.le_of_lt hlt)
      simpa using this
  · obtain ⟨b, hb, rfl⟩ := List.mem_map.mp hd
    obtain ⟨d, _, e2, _⟩ := hbs b hb
    exact ⟨_, _, e2⟩
  · obtain ⟨d, _, e2, e4⟩ := hbs b hb
    have hu2 : X.A.in1.units = X.A.units + 1 := rfl
    rw [hu2]
    show X.A.units + 1 + 1 + b.2.depth < cLine
    omega
  · show EP X pins σ Q (.ref h'.objs.size) { s with heap := sortedHeap h2 h'.objs.size (as.map Value.ref) out.toArray, toks := tk }
    have hln : out.length = bs.length := hol
    have oref : ∃ qs : List Addr, out = qs.map Value.ref ∧ (∀ t ∈ qs, t ∈ as) ∧ EachIs (fun t b => ∃ j : Nat, as[j]? = some t ∧ bs[j]? = some b) qs (bs.mergeSort (dataLe false fun b : KVP => b.2)) := by
      generalize bs.mergeSort (dataLe false fun b : KVP => b.2) = B at hout
      clear hol hln q
      induction hout with
      | nil => exact ⟨[], rfl, (fun _ z => nomatch z), .nil⟩
      | cons h1 t1 ih =>
        obtain ⟨j, t, rfl, h2, h3⟩ := h1
        obtain ⟨qs, rfl, h4, h5⟩ := ih
        refine ⟨t :: qs, rfl, fun x hx => ?_, .cons ⟨j, h2, h3⟩ h5⟩
        rcases List.mem_cons.mp hx with rfl | hx
        · exact List.mem_of_getElem? h2
        · exact h4 x hx
    obtain ⟨qs, rfl, hqs, hE⟩ := oref
    have kF : ∀ b o, b ≠ h'.objs.size → h2.get? b = some o → (sortedHeap h2 h'.objs.size (as.map Value.ref) (qs.map Value.ref).toArray).get? b = some o := fun b o hb e => (PyProof.Rows.sortedHeap_old hb (Heap.lt_size e)).trans e
    have kS : ∀ b o, s.heap.get? b = some o → (sortedHeap h2 h'.objs.size (as.map Value.ref) (qs.map Value.ref).toArray).get? b = some o := fun b o e => kF b o (ne0 _ _ (hk b o e)) (kb b o e)
    obtain ⟨eF, heF⟩ := PyProof.Rows.sortedHeap_at (vs := as.map Value.ref) (out := (qs.map Value.ref).toArray) hob
    have I1 : Inv X pins σ H { s with heap := sortedHeap h2 h'.objs.size (as.map Value.ref) (qs.map Value.ref).toArray, toks := tk } := I.kept (t' := tk) kS
    have hn0 : H h'.objs.size = none := I.hok.fresh (Nat.le_of_lt hlt)
    have hlen : (qs.map V.ref).length ≤ sizeLine := by
      rw [List.length_map] at hln ⊢
      rw [hln]
      exact big_line h64
    have rv : Vals (qs.map V.ref) (qs.map Value.ref) := vals_maps V.ref Value.ref qs fun _ _ => rfl
    have I2 : Inv X pins σ (upd H h'.objs.size (.lst (qs.map V.ref))) { s with heap := sortedHeap h2 h'.objs.size (as.map Value.ref) (qs.map Value.ref).toArray, toks := tk } :=
      I1.take (h' := sortedHeap h2 h'.objs.size (as.map Value.ref) (qs.map Value.ref).toArray) (t' := tk) (fun b ob _ e => e) (I.fpOk (Nat.le_of_lt hlt) hn0) ⟨hlen, _, eF, rv, heF⟩
    obtain ⟨H2, I3, g, qt⟩ := takeF (P := fun t u => ∃ (j : Nat) (b : KVP) (o : Obj), as[j]? = some t ∧ bs[j]? = some b ∧ u = .frz o (.tup [kV b.1.1, b.1.2]) ∧ o.dict = none) I as _ I2 nd fun t ht => by
      obtain ⟨j, hj⟩ := List.mem_iff_getElem?.mp ht
      obtain ⟨b, kv, vv, hb, hkey, hval, hg⟩ := pr j t hj
      have hbl : s.heap.objs.size ≤ t := Nat.le_of_lt (hG.above t ht)
      refine ⟨hbl, ?_, _, ⟨j, b, _, hj, hb, rfl, rfl⟩, fun H3 => ⟨kF _ _ (ne0 _ _ hg) (ka _ _ hg), (by rw [sizeLine_eq]; show 2 ≤ 16777216; omega), [kv, vv], .cons (key_rel hkey) (.cons hval .nil), ⟨_, kF _ _ (ne0 _ _ hg) (ka _ _ hg), rfl, 0, rfl⟩⟩⟩
      rw [upd_ne (ne0 _ _ hg)]
      exact I.hok.fresh hbl
    refine ⟨.ref h'.objs.size, H2, I3, rfl, q H2 h'.objs.size qs (fun b o e => g b o (by rw [upd_ne (ne_of_none e hn0)]; exact e)) hn0 (g _ _ upd_same) ?_⟩
    have hq := fun t ht => qt t (hqs t ht)
    clear q rv hlen I1 I2 kF kS eF heF hqs hn0
    generalize bs.mergeSort (dataLe false fun b : KVP => b.2) = B at hE
    refine hE.mono fun t b hb => ?_
    obtain ⟨j, j1, j2⟩ := hb
    obtain ⟨u, ⟨i, b', o, i1, i2, eu, eo⟩, hH⟩ := qt t (List.mem_of_getElem? j1)
    have eij : i = j := (List.getElem?_inj (List.getElem?_eq_some_iff.mp i1).1 nd).mp (i1.trans j1.symm)
    subst eij
    obtain rfl : b' = b := Option.some.inj (i2.symm.trans j2)
    exact ⟨o, by rw [hH, eu], eo⟩
theorem Grow.pts {m : List Addr} {H H' : Hp} (g : ∀ b o, H b = some o → H' b = some o) : Grow m H m H' := ⟨fun _ _ h => h, fun a o u h => g a _ h⟩
/-- a new thing, and more that is not among the named ones -/
theorem R.new2 {K : PySem.W.Frag} {mg : Str → Option Value} {m : List Addr} {H H' : Hp} {h : Hm} {p : Addr} {o : O} (r : R K mg m H h) (g : ∀ b o, H b = some o → H' b = some o) (hp : H p = none) (x : ObjR K mg (m ++ [p]) H' p o) : R K mg (m ++ [p]) H' (h ++ [o]) := by
  have np : p ∉ m := fun z => by
    obtain ⟨n, hn, e⟩ := List.mem_iff_getElem.mp z
    exact r.there (n := n) (a := p) (by rw [List.getElem?_eq_getElem hn, e]) hp
  have gg : Grow m H (m ++ [p]) H' := (Grow.pts g).trans (Grow.more _)
  refine ⟨by simp [r.len], ?_, fun n a o' e1 e2 => ?_⟩
  · rw [List.nodup_append]
    refine ⟨r.nd, by simp, fun a ha b hb => ?_⟩
    have : b = p := by simpa using hb
    subst this
    rintro rfl
    exact np ha
  · by_cases hn : n < m.length
    · rw [List.getElem?_append_left hn] at e1
      rw [List.getElem?_append_left (by rw [← r.len]; exact hn)] at e2
      have th := r.there e1
      have eq : H' a = H a := by
        cases q : H a with
        | none => exact absurd q th
        | some u => exact g _ _ q
      exact (r.ob n a o' e1 e2).grow gg eq
    · have hn' : ¬ n < h.length := by rw [← r.len]; exact hn
      rw [List.getElem?_append_right (by omega)] at e1 e2
      have e : n - m.length = 0 := by
        have := (List.getElem?_eq_some_iff.mp e1).1
        simp at this
        omega
      rw [e] at e1
      rw [← r.len, e] at e2
      simp at e1 e2
      subst e1 e2
      exact x
def kD : Key → D
  | .inl i => .int i
  | .inr x => .str x
theorem kD_rep {K : PySem.W.Frag} {m : List Addr} {H : Hp} (k : Key) : Rep K m H (kV k) (kD k) := by
  cases k with
  | inl i => exact .int i
  | inr x => exact .str x
abbrev KDP := (Key × D) × PyData
def prepK (h : Hm) : List (Key × D) → Option (List KDP)
  | [] => some []
  | kv :: r => match toPy 20 h kv.2, prepK h r with
    | some d, some l => some ((kv, .tuple [kP kv.1, d]) :: l)
    | _, _ => none
def sortOk (l : List KDP) : Bool := decide (l.length ≤ big) && l.all (fun x => decide (x.2.depth ≤ 50)) && l.all fun x => l.all fun y => PySem.W.alike x.2 y.2
def dSortIt (d : D) (h : Hm) : RD := match d with
  | .ref n => match h[n]? with
    | some (.dk kvs) => match prepK h kvs with
      | some l => if sortOk l = true then .ok (.ref h.length) (h ++ [.lst ((l.mergeSort (dataLe false (·.2))).map fun x => .tup [kD x.1.1, x.1.2])]) else .bad
      | none => .bad
    | _ => .bad
  | _ => .bad
def eSortIt (f : FE) : FE := fun s h => (f s h).bind dSortIt
theorem prepK_ok {m : List Addr} {H : Hp} {h : Hm} (R0 : R X.K X.mg m H h) : ∀ {kv : List (Key × V)} {kvs : List (Key × D)} {l : List KDP}, RepK X.K m H kv kvs → prepK h kvs = some l →
    ∃ zs : List ((Key × V) × KDP), zs.map (·.1) = kv ∧ zs.map (·.2) = l ∧ ∀ z ∈ zs, z.1.1 = z.2.1.1 ∧ Rep X.K m H z.1.2 z.2.1.2 ∧ ∃ d, Dp X.K H z.1.2 d ∧ z.2.2 = .tuple [kP z.1.1, d]
  | _, _, l, .nil, e => by
    simp only [prepK] at e
    cases e
    exact ⟨[], rfl, rfl, fun _ z => nomatch z⟩
  | a :: kv, b :: kvs, l, .cons q t, e => by
    unfold prepK at e
    split at e
    · rename_i d l' h1 h2
      cases e
      obtain ⟨zs, e1, e2, e3⟩ := prepK_ok R0 t h2
      refine ⟨(a, (b, .tuple [kP b.1, d])) :: zs, by simp [e1], by simp [e2], fun z hz => ?_⟩
      rcases List.mem_cons.mp hz with rfl | hz
      · exact ⟨q.1, q.2, d, toPy_dp R0 _ _ _ _ q.2 h1, by rw [q.1]⟩
      · exact e3 z hz
    · cases e
theorem each_map' {α β γ : Type} {R : α → γ → Prop} (f : β → γ) : ∀ {as : List α} {bs : List β}, EachIs R as (bs.map f) → EachIs (fun a b => R a (f b)) as bs
  | [], [], _ => .nil
  | [], _ :: _, h => by cases h
  | _ :: _, [], h => by cases h
  | _ :: _, _ :: _, .cons h t => .cons h (each_map' f t)
theorem se_sortIt {W : WX} {e : Expr} {f : FE} {p apos cpos pos : Pos} {k : Nat} (hc : X.calm = true) (hr : Room k X.A) (hg : Gl X "sorted") (hm : X.mg "sorted" = none) (he : SE X W e f)
    (hbase : attributeBase e "items" X.env (eval e X.env) = eval e X.env := by rfl) (hline : (apos.endLine == cpos.line) = true := by rfl)
    (hst : starEach [.Call (.Attribute e "items" apos) [] [] cpos] X.env = (false, eval (.Call (.Attribute e "items" apos) [] [] cpos) X.env) :: starEach [] X.env := by rfl)
    (hpl : (backTo pos (starEach [.Call (.Attribute e "items" apos) [] [] cpos] X.env)).any (·.1) = false := by rfl) :
    SE X W (.Call (.Name "sorted" p) [.Call (.Attribute e "items" apos) [] [] cpos] [] pos) (eSortIt f) := by
  refine PE.imp (pe_callB (cr_sortIK hc hr.units) hg hm rfl (pa_cons (pe_bm0 PySem.F.plainAttrs_dict PySem.F.slot_dict_items PySem.F.type_dict_items mt_itemsK he hbase hline) pa_nil hst) (by decide) (by decide) hst hpl) fun σ H Q h => ?_
  obtain ⟨m, s, h, R0, rs, p⟩ := h
  refine ⟨m, s, h, R0, rs, PostE.mono (PostE.bind p) ?_⟩
  rintro x H1 ⟨m1, dx, h1, g1, R1, rx, p1⟩
  unfold dSortIt at p1
  split at p1
  · rename_i n
    split at p1
    · rename_i kvs hn
      split at p1
      · rename_i l hl
        split at p1
        · rename_i hok
          obtain ⟨a, rfl, hma⟩ := rx.ref_inv
          have xo := R1.ob _ _ _ hma hn
          obtain ⟨kv, q1, q2⟩ := id xo
          unfold sortOk at hok
          simp only [Bool.and_eq_true, decide_eq_true_eq, List.all_eq_true] at hok
          obtain ⟨⟨o1, o2⟩, o3⟩ := hok
          refine ⟨.inr (.inr (.inl ⟨rfl, .inl ⟨kv, q1⟩⟩)), a, kv, rfl, rfl, q1, fun q hq => ?_⟩
          have gq : ∀ b o, H1 b = some o → upd H1 q (itemsO q a) b = some o := fun b o e => by rw [upd_ne (ne_of_none e hq)]; exact e
          have g2 : Grow m1 H1 m1 (upd H1 q (itemsO q a)) := Grow.pts gq
          have R2 : R X.K X.mg m1 (upd H1 q (itemsO q a)) h1 := R1.tup hq
          obtain ⟨zs, e1, e2, e3⟩ := prepK_ok R2 (q2.grow g2) hl
          subst e2
          refine ⟨q, a, zs.map fun z => (z.1, z.2.2), rfl, upd_same, ?_, by simpa using o1, fun b hb => ?_, ?_, fun H3 l qs g3 hl3 hH3 hE => ?_⟩
          · rw [List.map_map]
            show upd H1 q (itemsO q a) a = some (.dK (zs.map fun z => z.1))
            rw [gq _ _ q1, e1]
          · obtain ⟨z, hz, rfl⟩ := List.mem_map.mp hb
            obtain ⟨_, _, d, k1, k2⟩ := e3 z hz
            exact ⟨d, k1, k2, o2 _ (List.mem_map.mpr ⟨z, hz, rfl⟩)⟩
          · intro d hd d' hd'
            rw [List.map_map] at hd hd'
            obtain ⟨z, hz, rfl⟩ := List.mem_map.mp hd
            obtain ⟨z', hz', rfl⟩ := List.mem_map.mp hd'
            exact o3 _ (List.mem_map.mpr ⟨z, hz, rfl⟩) _ (List.mem_map.mpr ⟨z', hz', rfl⟩)
          · have hs1 : (zs.map fun z => (z.1, z.2.2)).mergeSort (dataLe false fun b : KVP => b.2) = (zs.mergeSort (dataLe false fun z => z.2.2)).map fun z => (z.1, z.2.2) :=
              (List.map_mergeSort (f := fun z : (Key × V) × KDP => (z.1, z.2.2)) (r := dataLe false fun z => z.2.2) (fun _ _ _ _ => rfl)).symm
            have hs2 : (zs.map (·.2)).mergeSort (dataLe false fun b : KDP => b.2) = (zs.mergeSort (dataLe false fun z => z.2.2)).map (·.2) :=
              (List.map_mergeSort (f := fun z : (Key × V) × KDP => z.2) (r := dataLe false fun z => z.2.2) (fun _ _ _ _ => rfl)).symm
            rw [hs1] at hE
            rw [hs2] at p1
            have hmem : ∀ z ∈ zs.mergeSort (dataLe false fun z => z.2.2), z ∈ zs := fun z hz => (List.mergeSort_perm zs _).mem_iff.mp hz
            generalize zs.mergeSort (dataLe false fun z => z.2.2) = B at hE p1 hmem
            have hE' := each_map' _ hE
            have gg : ∀ b o, H1 b = some o → H3 b = some o := fun b o e => g3 b o (gq b o e)
            have g4 : Grow m1 H1 (m1 ++ [l]) H3 := (Grow.pts gg).trans (Grow.more _)
            have hlH1 : H1 l = none := by
              cases q : H1 l with
              | none => rfl
              | some u => rw [gq _ _ q] at hl3; cases hl3
            have rl : RepL X.K (m1 ++ [l]) H3 (qs.map V.ref) ((B.map (·.2)).map fun x => .tup [kD x.1.1, x.1.2]) := by
              clear hE hH3 p1
              induction hE' with
              | nil => exact .nil
              | @cons t b ts bs h1 t1 ih =>
                obtain ⟨o, h2, h3⟩ := h1
                obtain ⟨k1, k2, _⟩ := e3 b (hmem b (List.mem_cons_self ..))
                refine .cons (.tup (.inl ⟨o, h2, h3⟩) (.cons ?_ (.cons ?_ .nil))) (ih fun z hz => hmem z (List.mem_cons_of_mem _ hz))
                · show Rep _ _ _ (kV b.1.1) (kD b.2.1.1)
                  rw [k1]
                  exact kD_rep _
                · exact (k2.grow (Grow.pts g3)).grow (Grow.more _)
            have R4 : R X.K X.mg (m1 ++ [l]) H3 (h1 ++ [.lst ((B.map (·.2)).map fun x => .tup [kD x.1.1, x.1.2])]) := R1.new2 gg hlH1 ⟨_, hH3, rl⟩
            exact p1 _ H3 _ g4 R4 (.ref R1.newAt)
        · exact False.elim p1
      · exact False.elim p1
    · exact False.elim p1
  · exact False.elim p1
end
end Sh

set_option Elab.async false
set_option linter.all false
set_option maxRecDepth 100000
set_option maxHeartbeats 4000000
namespace Sh
open PySem L2 PyProof.Rows
/-! ### len(set(a list of ints)), unary minus -/
def intsD : List D → Option (List Int)
  | [] => some []
  | .int i :: ds => (intsD ds).map (i :: ·)
  | _ => none
theorem intsD_rep {K : PySem.W.Frag} {m : List Addr} {H : Hp} : ∀ {ds : List D} {ns : List Int} {vs : List V}, RepL K m H vs ds → intsD ds = some ns → vs = ns.map V.int
  | [], ns, vs, r, e => by
    cases r
    simp only [intsD] at e
    cases e
    rfl
  | d :: ds, ns, vs, r, e => by
    cases d with
    | int i =>
      simp only [intsD] at e
      obtain ⟨ms, h1, rfl⟩ := Option.map_eq_some_iff.mp e
      cases r with
      | cons r1 r2 =>
        cases r1
        rw [intsD_rep r2 h1]
        rfl
    | _ => simp [intsD] at e
def metI (ns : List Int) : List Int := PyProof.Rows.firstMet (fun i => ns.getD i 0) ns.length
section
variable {X : Cx} {W : WX} {e a : Expr} {f : FE} {pos p p2 q : Pos}
theorem pe_lenSet {ta : TE} (hg : Gl X "len") (hm : X.mg "len" = none) (hg2 : Gl X "set") (hm2 : X.mg "set" = none) (hc : X.calm = true) (ha : PE X a ta)
    (na : starEach [a] X.env = (false, eval a X.env) :: starEach [] X.env := by rfl) : PE X (.Call (.Name "len" p) [.Call (.Name "set" p2) [a] [] q] [] pos) (fun σ H Q => ta σ H fun x H1 => ∃ (l : Addr) (ns : List Int), x = .ref l ∧ SqL X.K H1 l (ns.map V.int) ∧ ns.length ≤ 4000 ∧ Q (.int ((metI ns).length : Nat)) H1) := by
  refine ⟨fun pins s σ H Q I h => ?_⟩
  refine Call_ (ld_blt I hg hm boot_len ?_)
  refine PyProof.Rows.callWith_builtin1 (PyProof.Rows.args_cons ?_ rfl) rfl rfl
  refine Call_ (ld_blt I hg2 hm2 boot_set ?_)
  refine PyProof.Rows.callWith_type1 (PyProof.Rows.args_cons (thn (ha.run pins s σ H _ I h) fun v s1 ⟨x, H1, I1, r1, q1⟩ => PyProof.Rows.args_nil ?_) na) na rfl
  obtain ⟨l, ns, rfl, hq, hl, q1⟩ := q1
  cases r1
  obtain ⟨its, r, pl, hz⟩ := I1.list hq
  have hlen : its.toArray.size = ns.length := by rw [List.size_toArray, ← r.length, List.length_map]
  refine call_set_list (I1.ok.hd hc) pl.isList (by simpa using RZ.intsAre_vals r) (by rw [hlen]; unfold scanBound; omega) fun h' tk hS hk => ?_
  refine PyProof.Rows.args_nil ?_
  rw [hlen] at hS
  obtain ⟨o, es, ep, t, ho, hex, hd, _, _, _, hf, hn⟩ := hS
  have I2 : Inv X pins σ H1 { s1 with heap := h', toks := tk } := I1.kept fun b o e => hk b o (Heap.lt_size e) e
  have hle : (metI ns).length ≤ ns.length := by
    exact PyProof.Rows.firstMet_length_le _ _
  exact call_len_set ho hex hd hf (by rw [hn]; unfold metI at hle; omega) ⟨.int (metI ns).length, H1, I2.tok _, ⟨_, by rw [hn]; rfl⟩, q1⟩
def eLenSet (f : FE) : FE := fun s h => (f s h).bind fun d h1 => match d with
  | .ref n => match items h1 (.ref n) with
    | some ds => match intsD ds with
      | some ns => if ns.length ≤ 4000 then .ok (.int ((metI ns).length : Nat)) h1 else .bad
      | none => .bad
    | none => .bad
  | _ => .bad
theorem se_lenSet (hg : Gl X "len") (hm : X.mg "len" = none) (hg2 : Gl X "set") (hm2 : X.mg "set" = none) (hc : X.calm = true) (ha : SE X W a f)
    (na : starEach [a] X.env = (false, eval a X.env) :: starEach [] X.env := by rfl) : SE X W (.Call (.Name "len" p) [.Call (.Name "set" p2) [a] [] q] [] pos) (eLenSet f) := by
  refine PE.imp (pe_lenSet hg hm hg2 hm2 hc ha na) fun σ H Q h => ?_
  obtain ⟨m, s, h, R0, rs, p⟩ := h
  refine ⟨m, s, h, R0, rs, PostE.mono (PostE.bind p) ?_⟩
  rintro x H1 ⟨m1, dx, h1, g1, R1, rx, p1⟩
  split at p1
  · split at p1
    · rename_i ds hi
      split at p1
      · rename_i ns hn
        split at p1
        · rename_i hl
          obtain ⟨a, rfl, hm⟩ := rx.ref_inv
          obtain ⟨vs, hq, l⟩ := items_ref R1 hm hi
          have e := intsD_rep l hn
          subst e
          exact ⟨a, ns, rfl, hq, hl, p1.val R1 (.int _)⟩
        · exact False.elim p1
      · exact False.elim p1
    · exact False.elim p1
  · exact False.elim p1
def eNeg (f : FE) : FE := fun s h => (f s h).bind fun d h1 => match d with
  | .int i => .ok (.int (-i)) h1
  | _ => .bad
theorem se_neg (ha : SE X W a f) : SE X W (.UnaryOp .USub a pos) (eNeg f) := by
  refine PE.imp (pe_un un_neg ha) fun σ H Q h => ?_
  obtain ⟨m, s, h, R0, rs, p⟩ := h
  refine ⟨m, s, h, R0, rs, PostE.mono (PostE.bind p) ?_⟩
  rintro x H1 ⟨m1, dx, h1, g1, R1, rx, p1⟩
  split at p1
  · exact ⟨_, rx.int_inv, p1.val R1 (.int _)⟩
  · exact False.elim p1
end
end Sh

set_option Elab.async false
set_option linter.all false
set_option maxRecDepth 100000
set_option maxHeartbeats 4000000
namespace Sh
open PySem L2 PyProof.Rows
/-! ### the text's things, bundled -/
section
variable {P : Program} {w : World} {K : PySem.W.Frag} {mg : Str → Option Value} {base : Heap}
structure FnAt (K : PySem.W.Frag) (mg : Str → Option Value) (x qual : Str) (st : Stmt) (ps : List Str) where
  f : Addr
  fd : FuncData
  fn : Fun K x qual st f fd
  g : mg x = some (.ref f)
  bi : Binds K fd ps []
structure MeAt (K : PySem.W.Frag) (C : Addr) (x qual : Str) (st : Stmt) (ps : List Str) where
  f : Addr
  fd : FuncData
  fn : Fun K x qual st f fd
  me : Meth K C x f
  bi : Binds K fd ps []
structure InAt (K : PySem.W.Frag) (C : Addr) (qual : Str) (st : Stmt) (ps : List Str) (n : Nat) (ks : List Str) where
  f : Addr
  fd : FuncData
  fn : Fun K "__init__" qual st f fd
  mak : Mk K C f
  bi : ∀ (s : Shared) (us ws : List Value), us.length = n + 1 → ws.length = ks.length → BindsTo s fd ⟨us, ks.zip ws⟩ (ps.zip (us ++ ws))
structure ClAt (K : PySem.W.Frag) (mg : Str → Option Value) (c : Str) where
  C : Addr
  g : mg c = some (.ref C)
  cl : Cls K C
structure ExAt (K : PySem.W.Frag) (mg : Str → Option Value) (c : Str) where
  C : Addr
  g : mg c = some (.ref C)
  xC : PySem.W.excIn K C [.type "ValueError", .type "Exception", .type "BaseException", .type "object"] "ValueError.__new__" = true
  kC : PySem.W.keepIn K (.ref C) = true
  bC : PySem.W.subIn K (.ref C) (.type "BaseException") = some true
  tC : PySem.W.typeIn K (.ref C) = some (.type "type")
  hC : PySem.W.hasDictIn K C = true
theorem ExAt.t {X : Cx} {c : Str} (T : ExAt X.K X.mg c) : ExcT X c T.C := ⟨T.g, T.xC, T.kC, T.bC, T.tC⟩
abbrev OkF (P : Program) (w : World) (K : PySem.W.Frag) (mg : Str → Option Value) (base : Heap) (k : Nat) (f : Addr) (fd : FuncData) (ps : List Str) (F : FF) : Prop := FnOk P w K mg base (L2.CX P w) k f fd ps (spF K mg ps.length F)
theorem takesW0 {X : Cx} : Takes X W0 := fun u s' ⟨a, B, sI, pins, σ, H, cls, d, e, I, nb, up, sky, na, os, ag, w⟩ => w.elim
theorem sss_bad {X : Cx} {W : WX} {sts : List Stmt} : SSs X W sts gBad := ⟨fun pins s σ H D I q => by
  obtain ⟨m, s, h, R0, rs, p⟩ := q
  exact p.elim⟩
theorem units65 {k : Nat} {A : Around} (hr : Room k A) : A.units + 65 < cLine := by have := hr.un; omega
theorem sub_nil : SubOk K mg [] := fun _ h => nomatch h
theorem sub_cons {c x : Str} {b : Bool} {C Cx : Addr} {l : SubT} (h1 : mg c = some (.ref C)) (h2 : mg x = some (.ref Cx)) (e : PySem.W.exmOne K (.ref C) (.ref Cx) = some b) (r : SubOk K mg l) : SubOk K mg (((c, x), b) :: l) := by
  intro p hp D Dx g1 g2
  rcases List.mem_cons.mp hp with rfl | hp
  · rw [h1] at g1
    rw [h2] at g2
    cases g1
    cases g2
    exact e
  · exact r p hp D Dx g1 g2
theorem bindsK {x qual : Str} {st : Stmt} {f : Addr} {fd : FuncData} {ps ks : List Str} {n : Nat} (F : Fun K x qual st f fd)
    (h : ∀ (kV doc pm : Value) (an : Option Addr) (cdv ct : Value) (us ws : List Value), us.length = n → ws.length = ks.length → bindArgs (PySem.W.fnOf x qual (defArgs st) (defBody st) (defScope st) .none kV doc pm an cdv ct) ⟨us, ks.zip ws⟩ = pure (ps.zip (us ++ ws))) :
    ∀ (s : Shared) (us ws : List Value), us.length = n → ws.length = ks.length → BindsTo s fd ⟨us, ks.zip ws⟩ (ps.zip (us ++ ws)) := by
  obtain ⟨oc, od, kV, doc, pm, an, cdv, ct, osl, rfl, lk, hcd⟩ := F.ex
  exact fun s us ws h1 h2 => .of_eq (h kV doc pm an cdv ct us ws h1 h2)
variable {X : Cx} {W : WX} {e o : Expr} {es : List Expr} {fs fk : List FE} {fo : FE} {kws : List Keyword} {x qual cn mn : Str} {st : Stmt} {ps ks : List Str} {F : FF} {p pos apos : Pos} {k n : Nat}
/-- f(e, ..) -/
theorem se_callA (A : FnAt X.K X.mg x qual st ps) (G : FnS X k A.f A.fd ps F) (tk : Takes X W) (hr : Room k X.A) (hg : Gl X x) (ha : SA X W (e :: es) (evalL fs))
    (hl : decide (fs.length = ps.length) = true := by rfl) (hdb : (x == ("__debug__" : Str)) = false := by decide) (he : starEach (e :: es) X.env = (false, eval e X.env) :: starEach es X.env := by rfl) (hpl : (backTo pos (starEach es X.env)).any (·.1) = false := by rfl) :
    SE X W (.Call (.Name x p) (e :: es) [] pos) (eArgs F fs) := se_call G tk hr hg A.g A.fn.kp A.bi ha hl hdb he hpl
theorem se_methA {C : ClAt X.K X.mg cn} {pl : Sem Bool} (A : MeAt X.K C.C mn qual st ps) (G : FnS X k A.f A.fd ps F) (tk : Takes X W) (hr : Room k X.A) (ho : SE X W o fo) (ha : SA X W (e :: es) (evalL fs)) (hl : decide (fs.length + 1 = ps.length) = true := by rfl)
    (hst : starEach (e :: es) X.env = (false, eval e X.env) :: starEach es X.env := by rfl) (hpl : (backTo pos (starEach es X.env)).any (·.1) = false := by rfl)
    (ht : eval (.Call (.Attribute o mn apos) (e :: es) [] pos) X.env = (do
      let ov ← eval o X.env
      standAt apos.atName
      let (f, first) ← holding [ov] (getMethod ov mn pl)
      callWith pos f first (backTo pos (starEach (e :: es) X.env)) (backToKw pos (keywordEach [] X.env))) := by rfl) : SE X W (.Call (.Attribute o mn apos) (e :: es) [] pos) (eMeth cn mn F fo fs) :=
  se_meth G tk hr C.g C.cl A.me A.bi ho ha hl hst hpl ht
theorem se_methA0 {C : ClAt X.K X.mg cn} {pl : Sem Bool} (A : MeAt X.K C.C mn qual st ps) (G : FnS X k A.f A.fd ps F) (tk : Takes X W) (hr : Room k X.A) (ho : SE X W o fo) (hl : decide (1 = ps.length) = true := by rfl)
    (ht : eval (.Call (.Attribute o mn apos) [] [] pos) X.env = (do
      let ov ← eval o X.env
      standAt apos.atName
      let (f, first) ← holding [ov] (getMethod ov mn pl)
      callWith pos f first (backTo pos (starEach [] X.env)) (backToKw pos (keywordEach [] X.env))) := by rfl) : SE X W (.Call (.Attribute o mn apos) [] [] pos) (eMeth cn mn F fo []) :=
  se_meth0 G tk hr C.g C.cl A.me A.bi ho hl ht
theorem se_makeA {C : ClAt X.K X.mg x} (A : InAt X.K C.C qual st ps n ks) (G : FnS X k A.f A.fd ps F) (tk : Takes X W) (hr : Room (k + 1) X.A) (hg : Gl X x)
    (ha : SA X W (e :: es) (evalL fs)) (hkw : SK X W kws fk) (hn : decide (fs.length = n) = true := by rfl) (hk2 : decide (fk.length = ks.length) = true := by rfl) (hps : decide (n + ks.length + 1 = ps.length) = true := by rfl)
    (hall : (backToKw pos (keywordEach kws X.env)).all (·.1.isSome) = true := by rfl) (hks : (backToKw pos (keywordEach kws X.env)).filterMap (·.1) = ks := by rfl)
    (hdb : (x == ("__debug__" : Str)) = false := by decide) (he : starEach (e :: es) X.env = (false, eval e X.env) :: starEach es X.env := by rfl)
    (hpl : ((backTo pos (starEach (e :: es) X.env)).any (·.1) || (backToKw pos (keywordEach kws X.env)).any (·.1.isNone)) = false := by rfl) :
    SE X W (.Call (.Name x p) (e :: es) kws pos) (eMake x F fs fk) := se_make A.mak G tk hr hg C.g A.bi ha hkw hn hk2 hps hall hks hdb he hpl
end
/-! ### the end -/
section
variable {K : PySem.W.Frag} {mg : Str → Option Value}
theorem fnFact {x qual : Str} {st : Stmt} {f : Addr} {oc : Value} {od an : Option Addr} {osl : Array (Option Value)} {kV doc pm cdv ct : Value} (l : K.lookup f = some ⟨oc, od, .func (PySem.W.fnOf x qual (defArgs st) (defBody st) (defScope st) .none kV doc pm an cdv ct), osl⟩)
    (c : PySem.W.codeIn K cdv qual = true) (k : PySem.W.keepIn K (.ref f) = true) : ∃ fd, Fun K x qual st f fd := ⟨_, fun_mk l c k⟩
theorem bind1 {x qual p : Str} {st : Stmt} {f : Addr} {fd : FuncData} (F : Fun K x qual st f fd)
    (h : ∀ (kV doc pm : Value) (an : Option Addr) (cdv ct : Value) (v : Value), bindArgs (PySem.W.fnOf x qual (defArgs st) (defBody st) (defScope st) .none kV doc pm an cdv ct) ⟨[v], []⟩ = pure [(p, v)]) (s : Shared) (v : Value) : BindsTo s fd ⟨[v], []⟩ [(p, v)] := by
  obtain ⟨oc, od, kV, doc, pm, an, cdv, ct, osl, rfl, lk, hcd⟩ := F.ex
  exact .of_eq (h kV doc pm an cdv ct v)
theorem ex_sub {c x : Str} {b : Bool} (A : ExAt K mg c) (B : ExAt K mg x) (h : PySem.W.subIn K (.ref A.C) (.ref B.C) = some b) : PySem.W.exmOne K (.ref A.C) (.ref B.C) = some b := PySem.W.exm_ref B.bC B.hC B.tC h
def spLaw (K : PySem.W.Frag) : Sp := fun vs H Q E => ∃ (a : Addr) (ns : List Int), vs = [.ref a] ∧ SclS K H a (ns.map V.int) ∧ ns.length ≤ 63 ∧ ∀ H', Q (.bl true) H'
theorem repInts {m : List Addr} {H : Hp} : ∀ ns : List Int, RepL K m H (ns.map V.int) (ns.map D.int)
  | [] => .nil
  | i :: ns => .cons (.int i) (repInts ns)
theorem law_imp {F : FF} (h : ∀ ns : List Int, ns.length ≤ 63 → ∃ h', F [.scl (ns.map D.int)] [] = .ok (.bl true) h') : ∀ vs H Q E, spLaw K vs H Q E → spF K mg 1 F vs H Q E := by
  rintro vs H Q E ⟨a, ns, rfl, hs, hl, q⟩
  obtain ⟨h', e⟩ := h ns hl
  refine ⟨rfl, [], [.scl (ns.map D.int)], [], ⟨rfl, List.nodup_nil, fun n a o e1 e2 => by simp at e1⟩, .cons (.scl hs (repInts ns)) .nil, ?_⟩
  rw [e]
  intro m' H' v g r rep
  rw [rep.bl_inv]
  exact q H'
theorem walkS {l : PySem.W.OpenLaw} {q : Program} {loose : List Str} {XP : (Str → Option Value) → Heap → Prop} {YP : World → Heap → Prop} {d : DefRec} {K : Params → PySem.W.Frag} {k : Nat} (hn : l.most = some 63) (hdf : d.params.defaults = []) (hr : Room k callerA)
    (hY : ∀ (w : World) (h : Heap), YP w h → (K w.params).In h)
    (F : ∀ (w : World) (mg : Str → Option Value) (fa : Addr) (h : Heap), (K w.params).In h → h.Ns mainGlobals mg → mg d.name = some (.ref fa) →
      ∃ fd : FuncData, (∀ (s : Shared) (u : Value), BindsTo s fd ⟨[u], []⟩ [("script", u)]) ∧ ∀ base : Heap, (K w.params).In base → base.Ns mainGlobals mg → FnOk l.prog w (K w.params) mg base (L2.CX l.prog w) k fa fd ["script"] (spLaw (K w.params))) :
    PySem.W.WalkO q loose XP YP l.row.toRowW d [] (fun f vs => PySem.call f vs) := by
  refine L2.walk_of (n := 63) (k := k) (x := "script") (CX := fun w => L2.CX l.prog w) (sp := fun w => spLaw (K w.params)) hn (by decide) hdf hr hY F (fun w H a ns hl hO hS => ?_) fun w H s e s' z => ?_
  · refine ⟨a, ns, rfl, ?_, hl, fun _ => rfl⟩
    rcases hS with hS | hS
    · rcases hS with hS | hS
      · rcases hO a with e | ⟨o, xs, e⟩
        · rw [hS] at e; cases e
        · rw [hS] at e; cases e
      · exact .inl hS
    · exact .inr hS
  · obtain ⟨a, B, H', cls, d, _, _, _, _, _, _, _, h⟩ := z
    exact h
end
end Sh

set_option Elab.async false
set_option linter.all false
set_option maxRecDepth 100000
set_option maxHeartbeats 4000000
namespace Sh
open PySem L2 PyProof.Rows
/-! ### reckoning with mirrors: each combinator by an eliminator, the eliminators by constructors and through if -/
def RT.seq (r : RT) (k : FS) : RT := match r with
  | .nx s h => k s h
  | r => r
def RD.tst (r : RD) (s : DS) (k : Bool → Hm → RT) : RT := match r with
  | .ok (.bl p) h => k p h
  | .ok _ _ => .bad
  | .exc c fs h => .exc c fs s h
  | .bad => .bad
def RD.tb (r : RD) (k : Bool → Hm → RD) : RD := match r with
  | .ok (.bl p) h => k p h
  | .ok _ _ => .bad
  | .exc c fs h => .exc c fs h
  | .bad => .bad
def ofO (o : Option (Option D)) (h : Hm) : RD := match o with
  | some (some d) => .ok d h
  | _ => .bad
section
variable {s : DS} {h h1 : Hm} {k : FS} {kb : Bool → Hm → RT} {ke : Bool → Hm → RD} {kd : D → Hm → RD} {ks : D → Hm → RT} {d : D} {p q : Bool} {c : Str} {fs : List (Str × D)} {P : Prop} [Decidable P]
@[simp] theorem seq_nx : (RT.nx s h).seq k = k s h := rfl
@[simp] theorem seq_rt : (RT.rt d h).seq k = .rt d h := rfl
@[simp] theorem seq_ct : (RT.ct s h).seq k = .ct s h := rfl
@[simp] theorem seq_bk : (RT.bk s h).seq k = .bk s h := rfl
@[simp] theorem seq_bad : RT.bad.seq k = .bad := rfl
@[simp] theorem seq_exc : (RT.exc c fs s h).seq k = .exc c fs s h := rfl
@[simp] theorem seq_ite {a b : RT} : (if P then a else b).seq k = if P then a.seq k else b.seq k := by split <;> rfl
@[simp] theorem tst_ok : (RD.ok (.bl p) h).tst s kb = kb p h := rfl
@[simp] theorem tst_bad : RD.bad.tst s kb = .bad := rfl
@[simp] theorem tst_exc : (RD.exc c fs h).tst s kb = .exc c fs s h := rfl
@[simp] theorem tst_ite {a b : RD} : (if P then a else b).tst s kb = if P then a.tst s kb else b.tst s kb := by split <;> rfl
@[simp] theorem tb_ok : (RD.ok (.bl p) h).tb ke = ke p h := rfl
@[simp] theorem tb_bad : RD.bad.tb ke = .bad := rfl
@[simp] theorem tb_exc : (RD.exc c fs h).tb ke = .exc c fs h := rfl
@[simp] theorem tb_ite {a b : RD} : (if P then a else b).tb ke = if P then a.tb ke else b.tb ke := by split <;> rfl
@[simp] theorem bind_ite {a b : RD} : (if P then a else b).bind kd = if P then a.bind kd else b.bind kd := by split <;> rfl
@[simp] theorem st_ite {a b : RD} : (if P then a else b).st s ks = if P then a.st s ks else b.st s ks := by split <;> rfl
@[simp] theorem ofO_some : ofO (some (some d)) h = .ok d h := rfl
@[simp] theorem ite_bl : (if P then RD.ok (.bl p) h else RD.ok (.bl q) h) = .ok (.bl (if P then p else q)) h := by split <;> rfl
variable {a b : FS} {f fa fb fc : FE} {g : List D → Hm → RD} {fop f1 f2 : D → D → Hm → RD} {x y z : FE}
@[simp] theorem x_seq : gSeq a b s h = (a s h).seq b := by unfold gSeq; cases a s h <;> rfl
@[simp] theorem x_next : gNext s h = .nx s h := rfl
@[simp] theorem x_cont : gCont s h = .ct s h := rfl
@[simp] theorem x_break : gBreak s h = .bk s h := rfl
@[simp] theorem x_retN : gRetN s h = .rt .non h := rfl
@[simp] theorem x_bad : gBad s h = .bad := rfl
@[simp] theorem x_drop : gDrop f s h = (f s h).st s fun _ h1 => .nx s h1 := rfl
@[simp] theorem x_ret : gRet f s h = (f s h).st s fun d h1 => .rt d h1 := rfl
@[simp] theorem x_set {i : Nat} : gSet i f s h = (f s h).st s fun d h1 => .nx (s.set i (some d)) h1 := rfl
@[simp] theorem x_if : gIf f a b s h = (f s h).tst s fun p h1 => if p then a s h1 else b s h1 := by
  unfold gIf
  cases f s h with
  | ok d h => cases d <;> first | rfl | (rename_i p; cases p <;> rfl)
  | _ => rfl
@[simp] theorem x_var {i : Nat} : eVar i s h = ofO s[i]? h := by unfold eVar ofO; rfl
@[simp] theorem x_c : eC d s h = .ok d h := rfl
@[simp] theorem x_bin : eBin fop fa fb s h = (fa s h).bind fun x h1 => (fb s h1).bind fun y h2 => fop x y h2 := rfl
@[simp] theorem x_and : eAnd fa fb s h = (fa s h).tb fun p h1 => if p then fb s h1 else .ok (.bl false) h1 := by
  unfold eAnd
  cases fa s h with
  | ok d h => cases d <;> first | rfl | (rename_i p; cases p <;> rfl)
  | _ => rfl
@[simp] theorem x_or : eOr fa fb s h = (fa s h).tb fun p h1 => if p then .ok (.bl true) h1 else fb s h1 := by
  unfold eOr
  cases fa s h with
  | ok d h => cases d <;> first | rfl | (rename_i p; cases p <;> rfl)
  | _ => rfl
@[simp] theorem x_not : eNot fa s h = (fa s h).tb fun p h1 => .ok (.bl (!p)) h1 := by
  unfold eNot
  cases fa s h with
  | ok d h => cases d <;> rfl
  | _ => rfl
@[simp] theorem x_eif : eIf fc fa fb s h = (fc s h).tb fun p h1 => if p then fa s h1 else fb s h1 := by
  unfold eIf
  cases fc s h with
  | ok d h => cases d <;> first | rfl | (rename_i p; cases p <;> rfl)
  | _ => rfl
@[simp] theorem x_chain : eChain f1 f2 fa fb fc s h = (fa s h).bind fun x h1 => (fb s h1).bind fun y h2 => (f1 x y h2).tb fun p h3 => if p then (fc s h3).bind fun z h4 => f2 y z h4 else .ok (.bl false) h3 := by
  unfold eChain
  congr 1
  funext x h1
  congr 1
  funext y h2
  cases f1 x y h2 with
  | ok d h => cases d <;> first | rfl | (rename_i p; cases p <;> rfl)
  | _ => rfl
@[simp] theorem x_neg : eNeg f s h = (f s h).bind fun d h1 => match d with
  | .int i => .ok (.int (-i)) h1
  | _ => .bad := rfl
/-- argument lists -/
def evR : List FE → DS → Hm → (List D → Hm → RD) → RD
  | [], s, h, k => k [] h
  | f :: fs, s, h, k => (f s h).bind fun d h1 => evR fs s h1 fun ds h2 => k (d :: ds) h2
theorem evR_eq {s : DS} : ∀ {fs : List FE} {h : Hm} {k : List D → Hm → RD}, evR fs s h k = match evalL fs s h with
    | .ok ds h1 => k ds h1
    | .exc c x h1 => .exc c x h1
    | .bad => .bad
  | [], h, k => rfl
  | f :: fs, h, k => by
    simp only [evR, evalL]
    cases f s h with
    | ok d h1 =>
      simp only [RD.bind_ok, evR_eq]
      cases evalL fs s h1 <;> rfl
    | exc c x h1 => rfl
    | bad => rfl
@[simp] theorem x_args {l : List FE} : eArgs g l s h = evR l s h g := by rw [evR_eq]; rfl
@[simp] theorem evR_nil {k : List D → Hm → RD} : evR [] s h k = k [] h := rfl
@[simp] theorem evR_cons {l : List FE} {k : List D → Hm → RD} : evR (f :: l) s h k = (f s h).bind fun d h1 => evR l s h1 fun ds h2 => k (d :: ds) h2 := rfl
@[simp] theorem x_tup {l : List FE} : eTup l s h = evR l s h fun ds h => .ok (.tup ds) h := x_args
@[simp] theorem x_lst {l : List FE} : eLst l s h = evR l s h fun ds h => .ok (.ref h.length) (h ++ [.lst ds]) := x_args
/-- operations on ints -/
@[simp] theorem o_cmp {t : Int → Int → Bool} {i j : Int} : dCmp t (.int i) (.int j) h = .ok (.bl (t i j)) h := rfl
@[simp] theorem o_sub {i j : Int} : dSub (.int i) (.int j) h = .ok (.int (i - j)) h := rfl
@[simp] theorem o_add {i j : Int} : dAdd (.int i) (.int j) h = .ok (.int (i + j)) h := rfl
@[simp] theorem o_mod {i j : Int} : dMod (.int i) (.int j) h = if 0 < j then .ok (.int (i % j)) h else .bad := by
  simp [dMod, dInt2]
theorem o_div {i j : Int} (h1 : 0 < j) (h2 : j < 18446744073709551616) : dDiv (.int i) (.int j) h = .ok (.int (i / j)) h := by
  have h3 : j < 1606938044258990275541962092341162602522202993782792835301376 := Int.lt_trans h2 (by decide)
  simp [dDiv, dInt2, h1, h3]
@[simp] theorem o_div1009 {i : Int} : dDiv (.int i) (.int 1009) h = .ok (.int (i / 1009)) h := o_div (by decide) (by decide)
@[simp] theorem o_div2003 {i : Int} : dDiv (.int i) (.int 2003) h = .ok (.int (i / 2003)) h := o_div (by decide) (by decide)
@[simp] theorem o_div16 {i : Int} : dDiv (.int i) (.int 16) h = .ok (.int (i / 16)) h := o_div (by decide) (by decide)
@[simp] theorem o_div3 {i : Int} : dDiv (.int i) (.int 3) h = .ok (.int (i / 3)) h := o_div (by decide) (by decide)
theorem o_pow18 : dPow (.int 10) (.int 18) h = .ok (.int 1000000000000000000) h := by rfl
theorem o_pow25 : dPow (.int 10) (.int 25) h = .ok (.int 10000000000000000000000000) h := by rfl
theorem o_mulL {i j : Int} (h1 : -18446744073709551616 < i) (h2 : i < 18446744073709551616) : dMul (.int i) (.int j) h = .ok (.int (i * j)) h := by
  have : cM i j = true := decide_eq_true (.inl ⟨by rw [show (-(2 ^ 64) : Int) = -18446744073709551616 from rfl]; exact h1, by rw [show ((2 : Int) ^ 64) = 18446744073709551616 from rfl]; exact h2⟩)
  simp [dMul, this]
theorem o_mulR {i j : Int} (h1 : -18446744073709551616 < j) (h2 : j < 18446744073709551616) : dMul (.int i) (.int j) h = .ok (.int (i * j)) h := by
  have : cM i j = true := decide_eq_true (.inr ⟨by rw [show (-(2 ^ 64) : Int) = -18446744073709551616 from rfl]; exact h1, by rw [show ((2 : Int) ^ 64) = 18446744073709551616 from rfl]; exact h2⟩)
  simp [dMul, this]
@[simp] theorem o_mul7919 {j : Int} : dMul (.int 7919) (.int j) h = .ok (.int (7919 * j)) h := o_mulL (by decide) (by decide)
@[simp] theorem o_mul48271 {j : Int} : dMul (.int j) (.int 48271) h = .ok (.int (j * 48271)) h := o_mulR (by decide) (by decide)
@[simp] theorem o_int {i : Int} : bInt [.int i] h = .ok (.int i) h := rfl
@[simp] theorem o_is_n {x : D} : dIs x .non h = .ok (.bl (decide (x = .non))) h := by simp [dIs]
@[simp] theorem o_is_b {x : D} {b : Bool} : dIs x (.bl b) h = .ok (.bl (decide (x = .bl b))) h := by simp [dIs]
@[simp] theorem o_isN_n {x : D} : dIsNot x .non h = .ok (.bl (!decide (x = .non))) h := by simp [dIsNot]
@[simp] theorem o_isN_b {x : D} {b : Bool} : dIsNot x (.bl b) h = .ok (.bl (!decide (x = .bl b))) h := by simp [dIsNot]
@[simp] theorem o_len_t {ds : List D} : bLen [.tup ds] h = .ok (.int ds.length) h := rfl
@[simp] theorem o_len_s {ds : List D} : bLen [.scl ds] h = .ok (.int ds.length) h := rfl
theorem o_len_r {n : Nat} {ds : List D} (e : h[n]? = some (.lst ds)) : bLen [.ref n] h = .ok (.int ds.length) h := by simp [bLen, items, e]
def RT.out (r : RT) : RD := match r with
  | .nx _ h => .ok .non h
  | .rt d h => .ok d h
  | .exc c fs _ h => .exc c fs h
  | _ => .bad
@[simp] theorem out_nx : (RT.nx s h).out = .ok .non h := rfl
@[simp] theorem out_rt : (RT.rt d h).out = .ok d h := rfl
@[simp] theorem out_exc : (RT.exc c fs s h).out = .exc c fs h := rfl
@[simp] theorem out_bad : RT.bad.out = .bad := rfl
@[simp] theorem out_ite {a b : RT} : (if P then a else b).out = if P then a.out else b.out := by split <;> rfl
theorem x_run {n : Nat} {g : FS} {ds : List D} : runB n g ds h = (g (ds.map some ++ List.replicate (n - ds.length) none) h).out := by
  unfold runB
  cases g (ds.map some ++ List.replicate (n - ds.length) none) h <;> rfl
@[simp] theorem ite_ok {a b : D} : (if P then RD.ok a h else RD.ok b h) = .ok (if P then a else b) h := by split <;> rfl
@[simp] theorem ite_dbl {a b : Bool} : (if P then D.bl a else D.bl b) = D.bl (if P then a else b) := by split <;> rfl
@[simp] theorem x_isi {T : String} : eIsi T f s h = (f s h).bind fun d h1 => match isiB T h1 d with
  | some b => .ok (.bl b) h1
  | none => .bad := rfl
@[simp] theorem t_int {T : String} {i : Int} : isiB T h (.int i) = kitB "int" T := rfl
@[simp] theorem t_bl {T : String} {i : Bool} : isiB T h (.bl i) = kitB "bool" T := rfl
@[simp] theorem t_str {T : String} {i : Str} : isiB T h (.str i) = kitB "str" T := rfl
@[simp] theorem t_tup {T : String} {i : List D} : isiB T h (.tup i) = kitB "tuple" T := rfl
@[simp] theorem t_non {T : String} : isiB T h .non = kitB "NoneType" T := rfl
theorem kit_table : (kitB "int" "int" = some true ∧ kitB "int" "bool" = some false ∧ kitB "int" "str" = some false ∧ kitB "int" "tuple" = some false ∧ kitB "int" "list" = some false) ∧
    (kitB "bool" "int" = some true ∧ kitB "bool" "bool" = some true ∧ kitB "bool" "str" = some false ∧ kitB "bool" "tuple" = some false ∧ kitB "bool" "list" = some false) ∧
    (kitB "str" "int" = some false ∧ kitB "str" "bool" = some false ∧ kitB "str" "str" = some true ∧ kitB "str" "tuple" = some false ∧ kitB "str" "list" = some false) ∧
    (kitB "tuple" "int" = some false ∧ kitB "tuple" "bool" = some false ∧ kitB "tuple" "str" = some false ∧ kitB "tuple" "tuple" = some true ∧ kitB "tuple" "list" = some false) ∧
    (kitB "list" "int" = some false ∧ kitB "list" "bool" = some false ∧ kitB "list" "str" = some false ∧ kitB "list" "tuple" = some false ∧ kitB "list" "list" = some true) ∧
    (kitB "NoneType" "int" = some false ∧ kitB "NoneType" "bool" = some false ∧ kitB "NoneType" "str" = some false ∧ kitB "NoneType" "tuple" = some false ∧ kitB "NoneType" "list" = some false) := by
  decide +kernel
/-! ### lists in the heap -/
def lmC (g : Nat → List D → List D → Hm → RD) (n : Nat) (ds : List D) (h2 : Hm) : RD := match h2[n]? with
  | some (.lst xs) => g n xs ds h2
  | _ => .bad
def lmB (g : Nat → List D → List D → Hm → RD) (d : D) (l : List FE) (s : DS) (h1 : Hm) : RD := match d with
  | .ref n => match h1[n]? with
    | some (.lst _) => evR l s h1 fun ds h2 => lmC g n ds h2
    | _ => .bad
  | _ => .bad
variable {gl : Nat → List D → List D → Hm → RD} {l : List FE} {n : Nat} {xs ys : List D}
@[simp] theorem x_lm {fo : FE} : eLm gl fo l s h = (fo s h).bind fun d h1 => lmB gl d l s h1 := by
  unfold eLm lmB
  congr 1
  funext d h1
  cases d with
  | ref n =>
    dsimp only
    cases h1[n]? with
    | none => rfl
    | some o =>
      cases o with
      | lst zs => exact x_args
      | _ => rfl
  | _ => rfl
theorem lmB_ref (e : h[n]? = some (.lst ys)) : lmB gl (.ref n) l s h = evR l s h fun ds h2 => lmC gl n ds h2 := by simp [lmB, e]
theorem lmC_ok (e : h[n]? = some (.lst ys)) : lmC gl n xs h = gl n ys xs h := by simp [lmC, e]
theorem app_ok (e : xs.length < 1000000) : lAppend n xs [d] h = .ok .non (h.set n (.lst (xs ++ [d]))) := by
  have e' : xs.length < big := e
  simp [lAppend, e']
theorem get_last {o : O} : (h ++ [o])[h.length]? = some o := by simp
theorem set_last {o o' : O} : (h ++ [o]).set h.length o' = h ++ [o'] := by simp
theorem get_old {o : O} {n : Nat} (e : n < h.length) : (h ++ [o])[n]? = h[n]? := List.getElem?_append_left e
theorem lt_of_get {o : O} {n : Nat} (e : h[n]? = some o) : n < h.length := (List.getElem?_eq_some_iff.mp e).1
/-- appending to the newest list -/
theorem app_last {fo : FE} {e : FE} (hf : fo s (h ++ [.lst xs]) = .ok (.ref h.length) (h ++ [.lst xs])) (he : e s (h ++ [.lst xs]) = .ok d (h ++ [.lst xs])) (hl : xs.length < 1000000) :
    eLm lAppend fo [e] s (h ++ [.lst xs]) = .ok .non (h ++ [.lst (xs ++ [d])]) := by
  simp only [x_lm, hf, RD.bind_ok, lmB_ref (gl := lAppend) (get_last (h := h) (o := .lst xs)), evR_cons, evR_nil, he, lmC_ok (gl := lAppend) (get_last (h := h) (o := .lst xs)), app_ok hl, set_last]
theorem atI_nat {α : Type} {l : List α} {k : Nat} {x : α} (e : l[k]? = some x) : atI l (k : Int) = some x := by
  have hk := (List.getElem?_eq_some_iff.mp e).1
  have h0 : (0 : Int) ≤ (k : Int) := Int.natCast_nonneg k
  have h1 : (k : Int) < (l.length : Int) := Int.ofNat_lt.mpr hk
  unfold atI ixN
  rw [if_pos h0, if_pos h1]
  exact e
theorem ix_tup {k : Nat} {x : D} (e : xs[k]? = some x) : dIx (.tup xs) (.int k) h = .ok x h := by simp [dIx, items, atI_nat e]
theorem ix_ref {k : Nat} {x : D} (e0 : h[n]? = some (.lst xs)) (e : xs[k]? = some x) : dIx (.ref n) (.int k) h = .ok x h := by simp [dIx, items, e0, atI_nat e]
theorem len_ref (e : h[n]? = some (.lst xs)) : bLen [.ref n] h = .ok (.int xs.length) h := by simp [bLen, items, e]
/-! ### loops -/
variable {ck : Option (Nat × List D)} {gt : GT} {gb : FS} {fi : FI}
theorem loop_nil (hc : chkB ck h = true) : loopG ck gt gb [] s h = .nx s h := by simp [loopG, hc]
def RT.lp (r : RT) (k : FS) : RT := match r with
  | .nx s h => k s h
  | .ct s h => k s h
  | .bk s h => .nx s h
  | r => r
@[simp] theorem lp_nx : (RT.nx s h).lp k = k s h := rfl
@[simp] theorem lp_ct : (RT.ct s h).lp k = k s h := rfl
@[simp] theorem lp_bk : (RT.bk s h).lp k = .nx s h := rfl
@[simp] theorem lp_rt : (RT.rt d h).lp k = .rt d h := rfl
@[simp] theorem lp_ite {a b : RT} : (if P then a else b).lp k = if P then a.lp k else b.lp k := by split <;> rfl
theorem loop_cons {x : D} {s1 : DS} {h1 : Hm} (hc : chkB ck h = true) (ht : gt x s h = .nx s1 h1) : loopG ck gt gb (x :: xs) s h = (gb s1 h1).lp fun s2 h2 => loopG ck gt gb xs s2 h2 := by
  rw [loopG, if_pos hc, ht]
  dsimp only
  cases gb s1 h1 <;> rfl
theorem for_ok {h1 : Hm} (e : fi s h = .ok xs ck h1) : gFor fi gt gb s h = loopG ck gt gb xs s h1 := by simp [gFor, e]
theorem fi_ref {f : FE} {h1 : Hm} (e : f s h = .ok (.ref n) h1) (e1 : h1[n]? = some (.lst xs)) : fiSeq f s h = .ok xs (some (n, xs)) h1 := by simp [fiSeq, e, RD.it, iSeq, items, e1]
theorem fi_tup {f : FE} {h1 : Hm} (e : f s h = .ok (.tup xs) h1) : fiSeq f s h = .ok xs none h1 := by simp [fiSeq, e, RD.it, iSeq]
theorem fi_rg {f : FE} {h1 : Hm} {j : Int} (e : f s h = .ok (.int j) h1) (h0 : 0 ≤ j) (h2 : j < 1000000) : fiRg [f] s h = .ok ((List.range j.toNat).map fun i => .int (i : Nat)) none h1 := by
  have b : -4611686018427387904 ≤ j ∧ j < 4611686018427387904 := ⟨by omega, by omega⟩
  simp [fiRg, evalL, e, iRg, b, rgD]
theorem chk_ref (e : h[n]? = some (.lst xs)) : chkB (some (n, xs)) h = true := by
  simp [chkB, items, e, D.beqL_self]
theorem chk_none : chkB none h = true := rfl
@[simp] theorem q_int {i j : Int} : dEq (.int i) (.int j) h = .ok (.bl (decide (i = j))) h := by simp [dEq, eqB, eqSc]
@[simp] theorem q_str {i j : Str} : dEq (.str i) (.str j) h = .ok (.bl (decide (i = j))) h := by simp [dEq, eqB, eqSc]
@[simp] theorem q_is {i : Int} {j : Str} : dEq (.int i) (.str j) h = .ok (.bl false) h := by simp [dEq, eqB, eqSc]
@[simp] theorem q_si {i : Int} {j : Str} : dEq (.str j) (.int i) h = .ok (.bl false) h := by simp [dEq, eqB, eqSc]
@[simp] theorem q_ns {j : Str} : dEq .non (.str j) h = .ok (.bl false) h := by simp [dEq, eqB, eqSc]
@[simp] theorem q_ni {j : Int} : dEq .non (.int j) h = .ok (.bl false) h := by simp [dEq, eqB, eqSc]
@[simp] theorem nq_int {i j : Int} : dNe (.int i) (.int j) h = .ok (.bl (!decide (i = j))) h := by simp [dNe, eqB, eqSc]
@[simp] theorem nq_str {i j : Str} : dNe (.str i) (.str j) h = .ok (.bl (!decide (i = j))) h := by simp [dNe, eqB, eqSc]
@[simp] theorem nq_is {i : Int} {j : Str} : dNe (.int i) (.str j) h = .ok (.bl true) h := by simp [dNe, eqB, eqSc]
theorem pop_ok {i : Int} {x : D} (h0 : 0 ≤ i) (h1 : i < 1000000) (e : xs[i.toNat]? = some x) : lPopAt n xs [.int i] h = .ok x (h.set n (.lst (xs.eraseIdx i.toNat))) := by
  have hk := (List.getElem?_eq_some_iff.mp e).1
  have hs : seqIndex? i xs.length = some i.toNat := by
    unfold seqIndex?
    have : ¬ i < 0 := by omega
    simp [this, hk]
    omega
  have b : -9223372036854775808 ≤ i ∧ i < 9223372036854775808 := ⟨by omega, by omega⟩
  simp [lPopAt, b, hs, e]
/-! ### comprehensions whose items leave the heap but for new things -/
theorem lcv_ok {ft fe : FE} {s0 : DS} {val : D → D} {tt : D → Bool} (hck : ∀ u : Hm, chkB ck (h ++ u) = true) : ∀ (xs acc : List D) (t : Hm),
    (∀ x ∈ xs, ∀ u : Hm, ∃ (s1 : DS) (t' : Hm), gt x s0 (h ++ u) = .nx s1 (h ++ u) ∧ ft s1 (h ++ u) = .ok (.bl (tt x)) (h ++ u) ∧ (tt x = true → fe s1 (h ++ u) = .ok (val x) (h ++ u ++ t'))) → acc.length + xs.length < 1000000 →
    ∃ t2, lcLoop ck gt ft fe h.length s0 xs (h ++ .lst acc :: t) = .ok (.ref h.length) (h ++ .lst (acc ++ (xs.filter tt).map val) :: t2)
  | [], acc, t, _, _ => ⟨t, by
      unfold lcLoop
      rw [if_pos (hck _)]
      simp⟩
  | x :: xs, acc, t, k, hl => by
    simp only [List.length_cons] at hl
    obtain ⟨s1, t', e1, e2, e3⟩ := k x (List.mem_cons_self ..) (.lst acc :: t)
    unfold lcLoop
    rw [if_pos (hck _), e1]
    dsimp only
    rw [e2]
    cases ht : tt x with
    | false =>
      dsimp only
      obtain ⟨t2, r⟩ := lcv_ok hck xs acc t (fun y hy => k y (List.mem_cons_of_mem _ hy)) (by omega)
      exact ⟨t2, by rw [r, List.filter_cons_of_neg (by rw [ht]; exact Bool.false_ne_true)]⟩
    | true =>
      dsimp only
      rw [e3 ht]
      dsimp only
      have g : (h ++ .lst acc :: t ++ t')[h.length]? = some (.lst acc) := by simp
      rw [g]
      dsimp only
      have hb : acc.length < big := by show acc.length < 1000000; omega
      rw [if_pos hb]
      have es : (h ++ .lst acc :: t ++ t').set h.length (.lst (acc ++ [val x])) = h ++ .lst (acc ++ [val x]) :: (t ++ t') := by simp
      rw [es]
      obtain ⟨t2, r⟩ := lcv_ok hck xs (acc ++ [val x]) (t ++ t') (fun y hy => k y (List.mem_cons_of_mem _ hy)) (by simp; omega)
      exact ⟨t2, by rw [r, List.filter_cons_of_pos ht, List.map_cons, List.append_assoc]; rfl⟩
theorem elc_ok {ft fe : FE} {own : List Nat} {val : D → D} {tt : D → Bool} {xs : List D} (ef : fi s h = .ok xs ck h) (hck : ∀ u : Hm, chkB ck (h ++ u) = true)
    (k : ∀ x ∈ xs, ∀ u : Hm, ∃ (s1 : DS) (t' : Hm), gt x (wipeD s own) (h ++ u) = .nx s1 (h ++ u) ∧ ft s1 (h ++ u) = .ok (.bl (tt x)) (h ++ u) ∧ (tt x = true → fe s1 (h ++ u) = .ok (val x) (h ++ u ++ t'))) (hl : xs.length < 1000000) :
    ∃ t2, eLc fi gt ft fe own s h = .ok (.ref h.length) (h ++ .lst ((xs.filter tt).map val) :: t2) := by
  obtain ⟨t2, r⟩ := lcv_ok (s0 := wipeD s own) hck xs [] [] k (by simpa using hl)
  refine ⟨t2, ?_⟩
  unfold eLc
  rw [ef]
  dsimp only
  rw [r, List.nil_append]
theorem chk_old {n : Nat} {xs : List D} (e : h[n]? = some (.lst xs)) (u : Hm) : chkB (some (n, xs)) (h ++ u) = true := chk_ref (by rw [List.getElem?_append_left (lt_of_get e)]; exact e)
theorem bls_of : ∀ {ds : List D} {bs : List Bool}, ds = bs.map D.bl → bls ds = some bs
  | _, [], e => by subst e; rfl
  | _, b :: bs, e => by
    subst e
    simp only [List.map_cons, bls, bls_of rfl, Option.map_some]
theorem quant_ok {g : List Bool → Bool} {bs : List Bool} (e : h[n]? = some (.lst (bs.map D.bl))) : bQuant g [.ref n] h = .ok (.bl (g bs)) h := by
  simp [bQuant, e, bls_of rfl]
theorem lcIn_ok {ft fe : FE} {s0 : DS} {val : D → D} {tt : D → Bool} (hck : ∀ u : Hm, chkB ck (h ++ u) = true) : ∀ (xs acc : List D) (t : Hm),
    (∀ x ∈ xs, ∀ u : Hm, ∃ (s1 : DS) (t' : Hm), gt x s0 (h ++ u) = .nx s1 (h ++ u) ∧ ft s1 (h ++ u) = .ok (.bl (tt x)) (h ++ u) ∧ (tt x = true → fe s1 (h ++ u) = .ok (val x) (h ++ u ++ t'))) → acc.length + xs.length < 1000000 →
    ∃ t2, lcIn ck gt ft fe h.length s0 xs (h ++ .lst acc :: t) = some (h ++ .lst (acc ++ (xs.filter tt).map val) :: t2)
  | [], acc, t, _, _ => ⟨t, by
      unfold lcIn
      rw [if_pos (hck _)]
      simp⟩
  | x :: xs, acc, t, k, hl => by
    simp only [List.length_cons] at hl
    obtain ⟨s1, t', e1, e2, e3⟩ := k x (List.mem_cons_self ..) (.lst acc :: t)
    unfold lcIn
    rw [if_pos (hck _), e1]
    dsimp only
    rw [e2]
    cases ht : tt x with
    | false =>
      dsimp only
      obtain ⟨t2, r⟩ := lcIn_ok hck xs acc t (fun y hy => k y (List.mem_cons_of_mem _ hy)) (by omega)
      exact ⟨t2, by rw [r, List.filter_cons_of_neg (by rw [ht]; exact Bool.false_ne_true)]⟩
    | true =>
      dsimp only
      rw [e3 ht]
      dsimp only
      have g : (h ++ .lst acc :: t ++ t')[h.length]? = some (.lst acc) := by simp
      rw [g]
      dsimp only
      have hb : acc.length < big := by show acc.length < 1000000; omega
      rw [if_pos hb]
      have es : (h ++ .lst acc :: t ++ t').set h.length (.lst (acc ++ [val x])) = h ++ .lst (acc ++ [val x]) :: (t ++ t') := by simp
      rw [es]
      obtain ⟨t2, r⟩ := lcIn_ok hck xs (acc ++ [val x]) (t ++ t') (fun y hy => k y (List.mem_cons_of_mem _ hy)) (by simp; omega)
      exact ⟨t2, by rw [r, List.filter_cons_of_pos ht, List.map_cons, List.append_assoc]; rfl⟩
/-- two fors: of each x the items ys x, a tuple -/
theorem lc2_okv {fi1 : FI} {gt1 : GT} {ft1 fe : FE} {s0 : DS} {vs1 : List Nat} {ys : D → List D} {val : D → D → D} {tt : D → D → Bool} (hck : ∀ u : Hm, chkB ck (h ++ u) = true) : ∀ (xs acc : List D) (t : Hm),
    (∀ x ∈ xs, ∃ s1 : DS, (∀ u : Hm, gt x s0 (h ++ u) = .nx s1 (h ++ u) ∧ fi1 s1 (h ++ u) = .ok (ys x) none (h ++ u)) ∧
      ∀ y ∈ ys x, ∀ u : Hm, ∃ (s2 : DS) (t' : Hm), gt1 y (wipeD s1 vs1) (h ++ u) = .nx s2 (h ++ u) ∧ ft1 s2 (h ++ u) = .ok (.bl (tt x y)) (h ++ u) ∧ (tt x y = true → fe s2 (h ++ u) = .ok (val x y) (h ++ u ++ t'))) →
    acc.length + (xs.map fun x => (ys x).length).sum < 1000000 →
    ∃ t2, lc2Loop ck gt (eC (.bl true)) fi1 gt1 ft1 fe h.length s0 vs1 xs (h ++ .lst acc :: t) = .ok (.ref h.length) (h ++ .lst (acc ++ (xs.map fun x => ((ys x).filter (tt x)).map (val x)).flatten) :: t2)
  | [], acc, t, _, _ => ⟨t, by
      unfold lc2Loop
      rw [if_pos (hck _)]
      simp⟩
  | x :: xs, acc, t, k, hl => by
    simp only [List.map_cons, List.sum_cons] at hl
    obtain ⟨s1, e1, e2⟩ := k x (List.mem_cons_self ..)
    obtain ⟨t1, r1⟩ := lcIn_ok (ck := none) (gt := gt1) (ft := ft1) (fe := fe) (s0 := wipeD s1 vs1) (val := val x) (tt := tt x) (fun _ => rfl) (ys x) acc t e2 (by omega)
    have hfl : (((ys x).filter (tt x)).map (val x)).length ≤ (ys x).length := by rw [List.length_map]; exact List.length_filter_le ..
    obtain ⟨t2, r⟩ := lc2_okv hck xs (acc ++ ((ys x).filter (tt x)).map (val x)) t1 (fun y hy => k y (List.mem_cons_of_mem _ hy)) (by rw [List.length_append]; omega)
    refine ⟨t2, ?_⟩
    unfold lc2Loop
    rw [if_pos (hck _), (e1 _).1]
    dsimp only
    rw [x_c]
    dsimp only
    rw [(e1 _).2]
    dsimp only
    rw [r1]
    dsimp only
    rw [r, List.map_cons, List.flatten_cons, List.append_assoc]
theorem elc2_ok {fi1 : FI} {gt1 : GT} {ft1 fe : FE} {own vs1 : List Nat} {ys : D → List D} {val : D → D → D} {tt : D → D → Bool} {xs : List D} (ef : fi s h = .ok xs ck h) (hck : ∀ u : Hm, chkB ck (h ++ u) = true)
    (k : ∀ x ∈ xs, ∃ s1 : DS, (∀ u : Hm, gt x (wipeD s own) (h ++ u) = .nx s1 (h ++ u) ∧ fi1 s1 (h ++ u) = .ok (ys x) none (h ++ u)) ∧
      ∀ y ∈ ys x, ∀ u : Hm, ∃ (s2 : DS) (t' : Hm), gt1 y (wipeD s1 vs1) (h ++ u) = .nx s2 (h ++ u) ∧ ft1 s2 (h ++ u) = .ok (.bl (tt x y)) (h ++ u) ∧ (tt x y = true → fe s2 (h ++ u) = .ok (val x y) (h ++ u ++ t')))
    (hl : (xs.map fun x => (ys x).length).sum < 1000000) :
    ∃ t2, eLc2 fi gt (eC (.bl true)) fi1 gt1 ft1 fe own vs1 s h = .ok (.ref h.length) (h ++ .lst ((xs.map fun x => ((ys x).filter (tt x)).map (val x)).flatten) :: t2) := by
  obtain ⟨t2, r⟩ := lc2_okv (s0 := wipeD s own) hck xs [] [] k (by simpa using hl)
  refine ⟨t2, ?_⟩
  unfold eLc2
  rw [ef]
  dsimp only
  rw [r, List.nil_append]
end
end Sh

set_option Elab.async false
set_option linter.all false
set_option maxRecDepth 100000
set_option maxHeartbeats 4000000
/-! Lists of ints: sum, max, min, count; index of flat things; l[i] = e. -/
namespace Sh
open PySem L2 PyProof.Rows
theorem intsD_map (ns : List Int) : intsD (ns.map D.int) = some ns := by
  induction ns with
  | nil => rfl
  | cons a l ih => simp [intsD, ih]
/-- a function of a list of ints -/
def bInts (g : List Int → Option Int) (ds : List D) (h : Hm) : RD := match ds with
  | [.ref k] => match h[k]? with
    | some (.lst xs) => match intsD xs with
      | some ns => match g ns with
        | some i => .ok (.int i) h
        | none => .bad
      | none => .bad
    | _ => .bad
  | _ => .bad
def mxI : List Int → Int
  | [] => 0
  | a :: r => r.foldr max a
def mnI : List Int → Int
  | [] => 0
  | a :: r => r.foldr min a
theorem mxI_mem : ∀ {l : List Int}, l ≠ [] → mxI l ∈ l ∧ ∀ y ∈ l, y ≤ mxI l
  | [], h => absurd rfl h
  | a :: r, _ => by
    show r.foldr max a ∈ a :: r ∧ _
    have hh : r.foldr max a ∈ a :: r ∧ ∀ y ∈ a :: r, y ≤ r.foldr max a := by
      induction r with
      | nil => simp
      | cons b t ih =>
        rw [List.foldr_cons]
        obtain ⟨h1, h2⟩ := ih (List.cons_ne_nil _ _)
        refine ⟨?_, fun y hy => ?_⟩
        · rcases Int.le_total b (t.foldr max a) with h | h
          · rw [Int.max_eq_right h]
            rcases List.mem_cons.mp h1 with h1 | h1
            · rw [h1]; exact List.mem_cons_self
            · exact List.mem_cons_of_mem _ (List.mem_cons_of_mem _ h1)
          · rw [Int.max_eq_left h]
            exact List.mem_cons_of_mem _ List.mem_cons_self
        · rcases List.mem_cons.mp hy with rfl | hy
          · exact Int.le_trans (h2 y List.mem_cons_self) (Int.le_max_right _ _)
          · rcases List.mem_cons.mp hy with rfl | hy
            · exact Int.le_max_left _ _
            · exact Int.le_trans (h2 y (List.mem_cons_of_mem _ hy)) (Int.le_max_right _ _)
    exact hh
theorem mnI_mem : ∀ {l : List Int}, l ≠ [] → mnI l ∈ l ∧ ∀ y ∈ l, mnI l ≤ y
  | [], h => absurd rfl h
  | a :: r, _ => by
    show r.foldr min a ∈ a :: r ∧ _
    have hh : r.foldr min a ∈ a :: r ∧ ∀ y ∈ a :: r, r.foldr min a ≤ y := by
      induction r with
      | nil => simp
      | cons b t ih =>
        rw [List.foldr_cons]
        obtain ⟨h1, h2⟩ := ih (List.cons_ne_nil _ _)
        refine ⟨?_, fun y hy => ?_⟩
        · rcases Int.le_total (t.foldr min a) b with h | h
          · rw [Int.min_eq_right h]
            rcases List.mem_cons.mp h1 with h1 | h1
            · rw [h1]; exact List.mem_cons_self
            · exact List.mem_cons_of_mem _ (List.mem_cons_of_mem _ h1)
          · rw [Int.min_eq_left h]
            exact List.mem_cons_of_mem _ List.mem_cons_self
        · rcases List.mem_cons.mp hy with rfl | hy
          · exact Int.le_trans (Int.min_le_right _ _) (h2 y List.mem_cons_self)
          · rcases List.mem_cons.mp hy with rfl | hy
            · exact Int.min_le_left _ _
            · exact Int.le_trans (Int.min_le_right _ _) (h2 y (List.mem_cons_of_mem _ hy))
    exact hh
abbrev bSum := bInts fun ns => some ns.sum
abbrev bMax := bInts fun ns => if ns = [] then none else some (mxI ns)
abbrev bMin := bInts fun ns => if ns = [] then none else some (mnI ns)
section
variable {X : Cx}
theorem cs_ints {r : List V → Hp → VK → Prop} (g : List Int → Option Int) (k : ∀ (a : Addr) (ns : List Int) (i : Int) (H : Hp) (Q : VK), SqL X.K H a (ns.map V.int) → g ns = some i → Q (.int i) H → r [V.ref a] H Q) : CallS X r (bInts g) := by
  intro W m H h vs ds Q r rv p
  unfold bInts at p
  split at p
  · split at p
    · rename_i k' xs hk
      split at p
      · rename_i bs hb
        split at p
        · rename_i i hi
          cases rv with
          | cons r1 r2 =>
            cases r2
            obtain ⟨a, rfl, hm⟩ := r1.ref_inv
            obtain ⟨ws, q1, q2⟩ := r.ob _ _ _ hm hk
            exact k a bs i H Q (.inl (.inl (by rw [q1, intsD_rep q2 hb]))) hi (p.val r (.int _))
        · exact False.elim p
      · exact False.elim p
    · exact False.elim p
  · exact False.elim p
theorem cs_sum : CallS X (rSum X.K) bSum := cs_ints _ fun a ns i H Q h e q => ⟨a, ns, rfl, h, by cases e; exact q⟩
theorem cs_max : CallS X (rMax X.K) bMax := cs_ints _ fun a ns i H Q h e q => by
  by_cases z : ns = []
  · rw [if_pos z] at e; cases e
  · rw [if_neg z] at e
    cases e
    refine ⟨a, ns, rfl, h, List.length_pos_iff.mpr z, fun m h1 h2 => ?_⟩
    have e : m = mxI ns := Int.le_antisymm ((mxI_mem z).2 m h1) (h2 _ (mxI_mem z).1)
    rw [e]
    exact q
theorem cs_min : CallS X (rMin X.K) bMin := cs_ints _ fun a ns i H Q h e q => by
  by_cases z : ns = []
  · rw [if_pos z] at e; cases e
  · rw [if_neg z] at e
    cases e
    refine ⟨a, ns, rfl, h, List.length_pos_iff.mpr z, fun m h1 h2 => ?_⟩
    have e : m = mnI ns := Int.le_antisymm (h2 _ (mnI_mem z).1) ((mnI_mem z).2 m h1)
    rw [e]
    exact q
/-- max(i, j), min(i, j) -/
def bTwo (g : Int → Int → Int) (ds : List D) (h : Hm) : RD := match ds with
  | [.int i, .int j] => .ok (.int (g i j)) h
  | _ => .bad
theorem cs_two (g : Int → Int → Int) : CallS X (fun xs H Q => ∃ i j, xs = [.int i, .int j] ∧ Q (.int (g i j)) H) (bTwo g) := by
  intro W m H h vs ds Q r rv p
  unfold bTwo at p
  split at p
  · cases rv with | cons r1 r2 => cases r2 with | cons r2 r3 => cases r3; cases r1; cases r2; exact ⟨_, _, rfl, p.val r (.int _)⟩
  · exact False.elim p
abbrev bMax2 := bTwo fun i j => if j > i then j else i
abbrev bMin2 := bTwo fun i j => if j < i then j else i
/-- xs.index(x), flat things, x there -/
def lIndex (n : Nat) (xs ds : List D) (h : Hm) : RD := match ds with
  | [d] => if flatD d = true ∧ xs.all flatD = true then (match xs.findIdx? (fun z => eqF z d) with
    | some j => .ok (.int j) h
    | none => .bad) else .bad
  | _ => .bad
theorem ls_index : LmS X (rIndex X.K) lIndex := by
  intro W m H h n a xs us vs ds Q r hm hk hu l1 l2 p
  unfold lIndex at p
  split at p
  · rename_i d
    split at p
    · rename_i hf
      split at p
      · rename_i j hj
        cases l2 with
        | cons rv rn =>
          cases rn
          rename_i y
          obtain ⟨h1, h2, h3⟩ := List.findIdx?_eq_some_iff_getElem.mp hj
          obtain ⟨z, e1, e2⟩ := l1.get (List.getElem?_eq_getElem h1)
          refine ⟨a, us, y, j, z, rfl, rfl, .inl (.inl hu), flat_rep rv hf.1, flat_repL l1 hf.2, e1, by rw [eqF_rep e2 rv]; exact h2, fun i z' hi hz' => ?_, p.val r (.int _)⟩
          obtain ⟨d', e3, e4⟩ := l1.get' hz'
          rw [eqF_rep e4 rv]
          obtain ⟨h5, h6⟩ := List.getElem?_eq_some_iff.mp e3
          rw [← h6]
          simpa using h3 i hi
      · exact False.elim p
    · exact False.elim p
  · exact False.elim p
/-- xs.count(k) of ints -/
def lCount (n : Nat) (xs ds : List D) (h : Hm) : RD := match ds with
  | [.int k] => match intsD xs with
    | some ns => .ok (.int (ns.count k : Nat)) h
    | none => .bad
  | _ => .bad
theorem ls_count : LmS X (rCntI X.K) lCount := by
  intro W m H h n a xs us vs ds Q r hm hk hu l1 l2 p
  unfold lCount at p
  split at p
  · split at p
    · rename_i ns hn
      cases l2 with
      | cons rv rn =>
        cases rn
        cases rv
        exact ⟨a, ns, _, rfl, rfl, .inl (.inl (by rw [hu, intsD_rep l1 hn])), p.val r (.int _)⟩
    · exact False.elim p
  · exact False.elim p
variable {W : WX} {o i e : Expr} {fo fi f : FE} {pos pos' : Pos}
/-- l[i] = v, l a list -/
def gLput (fo fi fv : FE) : FS := fun s h => (fv s h).st s fun v h1 => (fo s h1).st s fun d h2 => (fi s h2).st s fun y h3 => match d, y with
  | .ref n, .int k => (match h3[n]? with
    | some (.lst xs) => (match ixN xs.length k with
      | some j => .nx s (h3.set n (.lst (xs.set j v)))
      | none => .bad)
    | _ => .bad)
  | _, _ => .bad
theorem ss_lput (ho : SE X W o fo) (hi : SE X W i fi) (hv : SE X W e f) (hs : swapsWithSole [.Subscript o i pos'] e pos.line X.env = pure false := by rfl) (hw : swappedStores [.Subscript o i pos'] e X.env = pure none := by rfl)
    (h1 : (assignEach [.Subscript o i pos'] X.env).map (·.2) = [assign (.Subscript o i pos') X.env] := by rfl)
    (ha : ∀ v, assign (.Subscript o i pos') X.env v = (do
      let ov ← holding [v] (eval o X.env)
      let iv ← holding [v, ov] (eval i X.env)
      standAt pos'
      holding [v, ov, iv] (setItem ov iv v)
      release [v, ov, iv] []) := by intro _; rfl) : SS X W (.Assign [.Subscript o i pos'] e pos) (gLput fo fi f) := by
  refine PS.imp (ps_asg hv (pg_sub ho hi set_list ha) hs hw h1) fun D σ H h => ?_
  obtain ⟨m, s, h, R0, rs, p⟩ := h
  refine ⟨m, s, h, R0, rs, PostE.mono (PostS.ofE rs p) ?_⟩
  rintro v H1 ⟨m1, dv, h1, g1, R1, rv, p1⟩
  refine ⟨m1, s, h1, R1, rs.grow g1, PostE.mono (PostS.ofE (rs.grow g1) p1) ?_⟩
  rintro x H2 ⟨m2, dx, h2, g2, R2, rx, p2⟩
  refine ⟨m2, s, h2, R2, (rs.grow g1).grow g2, PostE.mono (PostS.ofE ((rs.grow g1).grow g2) p2) ?_⟩
  rintro y H3 ⟨m3, dy, h3, g3, R3, ry, p3⟩
  split at p3
  · split at p3
    · rename_i n k xs hn
      split at p3
      · rename_i j hj
        obtain ⟨a, rfl, hm⟩ := (rx.grow g3).ref_inv
        obtain ⟨us, q1, q2⟩ := R3.ob _ _ _ hm hn
        cases ry
        refine ⟨a, us, _, j, rfl, rfl, q1, by rw [q2.length]; exact hj, ?_⟩
        obtain ⟨g4, R4⟩ := R3.lset hm hn (q2.set (rv.grow (g2.trans g3)) j)
        exact p3 m3 _ σ g4 R4 ((rs.grow (g1.trans (g2.trans g3))).grow g4)
      · exact False.elim p3
    · exact False.elim p3
  · exact False.elim p3
/-- a, b = x, y: both ahead, then both names -/
def gPar (i j : Nat) (fa fb : FE) : FS := fun s h => (fa s h).st s fun x h1 => (fb s h1).st s fun y h2 => .nx ((s.set i (some x)).set j (some y)) h2
theorem ss_par {i j : Nat} {x y : Str} {a b : Expr} {fa fb : FE} {px py pt : Pos} {kt k2 pt2} (hc : X.calm = true) (hN : X.N.Nodup) (hi : X.N[i]? = some x) (hj : X.N[j]? = some y) (hij : i ≠ j)
    (hx : X.env.scope.names.lookup x = some .local) (hy : X.env.scope.names.lookup y = some .local) (ha : SE X W a fa) (hb : SE X W b fb)
    (hw : swappedStores [.Tuple [.Name x px, .Name y py] kt pt] (.Tuple [a, b] k2 pt2) X.env = pure (some [x, y]))
    (hs : swapsWithSole [.Tuple [.Name x px, .Name y py] kt pt] (.Tuple [a, b] k2 pt2) pos.line X.env = pure false := by rfl)
    (h1 : starEach [a, b] X.env = (false, eval a X.env) :: starEach [b] X.env := by rfl) (h2 : starEach [b] X.env = (false, eval b X.env) :: starEach [] X.env := by rfl) :
    SS X W (.Assign [.Tuple [.Name x px, .Name y py] kt pt] (.Tuple [a, b] k2 pt2) pos) (gPar i j fa fb) := by
  refine PS.imp (ps_par hc hN hi hj hij hx hy (sa_cons ha (sa_cons hb sa_nil h2) h1) hw hs) fun D σ H h => ?_
  obtain ⟨m, s, h, R0, rs, p⟩ := h
  refine ⟨m, s, h, R0, rs, ?_⟩
  unfold gPar at p
  simp only [evalL]
  generalize fa s h = r1 at p
  cases r1 with
  | ok x h1 =>
    simp only [RD.st_ok] at p
    dsimp only
    generalize fb s h1 = r2 at p
    cases r2 with
    | ok y h2 =>
      intro m1 H1 vs g1 R1 rvs
      cases rvs with
      | cons rv t =>
        cases t with
        | cons rw t =>
          cases t
          exact ⟨_, _, rfl, p m1 H1 _ g1 R1 (((rs.grow g1).set i rv).set j rw)⟩
    | exc c fs h2 => exact fun m1 H1 cls dx g1 R1 ex => p m1 H1 σ cls dx g1 R1 (rs.grow g1) ex
    | bad => exact p
  | exc c fs h2 => exact fun m1 H1 cls dx g1 R1 ex => p m1 H1 σ cls dx g1 R1 (rs.grow g1) ex
  | bad => exact p
/-! ### truth -/
def truB (h : Hm) : D → Option Bool
  | .non => some false
  | .bl b => some b
  | .int i => some (i != 0)
  | .str x => if x.length ≤ big then some ((x.length : Int) != 0) else none
  | .tup xs => some (!xs.isEmpty)
  | .scl xs => some (!xs.isEmpty)
  | .ref n => match h[n]? with
    | some (.lst xs) => some (!xs.isEmpty)
    | some (.dk kvs) => some (!kvs.isEmpty)
    | _ => none
theorem RepL.empty {K : PySem.W.Frag} {m : List Addr} {H : Hp} {vs : List V} {ds : List D} (r : RepL K m H vs ds) : vs.isEmpty = ds.isEmpty := by cases r <;> rfl
theorem truB_ok {K : PySem.W.Frag} {mg : Str → Option Value} {m : List Addr} {H : Hp} {h : Hm} (r : R K mg m H h) {v : V} {d : D} {b : Bool} (x : Rep K m H v d) (e : truB h d = some b) : TruV K v H b := by
  cases d with
  | non => cases e; cases x; rfl
  | bl p => cases e; cases x; rfl
  | int p => cases e; cases x; rfl
  | str p =>
    simp only [truB] at e
    split at e
    · rename_i hz
      cases e
      cases x
      exact ⟨big_line hz, rfl⟩
    · cases e
  | tup ds =>
    cases e
    obtain ⟨a, vs, rfl, t, l⟩ := x.tup_inv
    exact .inr (.inl ⟨vs, t.sqT, by rw [l.empty]⟩)
  | scl ds =>
    cases e
    obtain ⟨a, vs, rfl, t, l⟩ := x.scl_inv
    exact .inl ⟨vs, t.sqL, by rw [l.empty]⟩
  | ref k =>
    obtain ⟨a, rfl, hm⟩ := x.ref_inv
    simp only [truB] at e
    split at e
    · rename_i ds hk
      cases e
      obtain ⟨vs, q1, q2⟩ := r.ob _ _ _ hm hk
      exact .inl ⟨vs, .inl (.inl q1), by rw [q2.empty]⟩
    · rename_i ds hk
      cases e
      obtain ⟨kv, q1, q2⟩ := r.ob _ _ _ hm hk
      refine .inr (.inr ⟨kv, q1, ?_⟩)
      have hl := q2.len
      cases kv <;> cases ds <;> first | rfl | (simp at hl)
    · cases e
def eTru (f : FE) : FE := fun s h => (f s h).bind fun d h1 => match truB h1 d with
  | some b => .ok (.bl b) h1
  | none => .bad
theorem tru_okE {f : FE} {σ : L2.St} {H : Hp} {Q : Bool → Hp → Prop} (h : tST X.K X.mg W (eTru f) σ H Q) : tS X.K X.mg W f σ H fun x H' => ∃ k, TruV X.K x H' k ∧ Q k H' := by
  obtain ⟨m, s, h, R0, rs, p⟩ := h
  refine ⟨m, s, h, R0, rs, PostE.mono (PostT.bindE p) ?_⟩
  rintro x H1 ⟨m1, dx, h1, g1, R1, rx, p1⟩
  try dsimp only at p1
  split at p1
  · rename_i b hb
    exact ⟨b, truB_ok R1 rx hb, p1 m1 H1 (Grow.refl _ _) R1⟩
  · exact False.elim p1
/-- a value of any kind, as a test -/
theorem st_tru (he : SE X W e f) (hw : ∀ whole, isTrue e X.env whole = (do let v ← whole; standAt e.pos; holding [v] (truthy v)) := by intro _; rfl) : ST X W e (eTru f) :=
  PT.imp (pt_truth he hw) fun σ H Q h => tru_okE h
/-- not of a value of any kind -/
theorem se_notT (he : SE X W e f) : SE X W (.UnaryOp .Not e pos) (eNot (eTru f)) := by
  refine PE.imp (pe_notT he) fun σ H Q h => ?_
  obtain ⟨m, s, h, R0, rs, p⟩ := h
  refine ⟨m, s, h, R0, rs, ?_⟩
  unfold eNot eTru at p
  generalize f s h = r at p
  cases r with
  | ok d h1 =>
    intro m1 H1 x g1 R1 rx
    simp only [RD.bind_ok] at p
    generalize hb : truB h1 d = ob at p
    cases ob with
    | some b => exact ⟨b, truB_ok R1 rx hb, (PostE.grow p g1).val R1 (.bl _)⟩
    | none => exact False.elim p
  | exc c fs h1 => exact p
  | bad => exact p
end
end Sh

set_option Elab.async false
set_option linter.all false
set_option maxRecDepth 100000
set_option maxHeartbeats 4000000
/-! What a mirror comes to, statement by statement: OK of expressions, NX of statements. -/
namespace Sh
open PySem L2 PyProof.Rows
inductive OK : RD → (D → Hm → Prop) → Prop
  | mk {d : D} {h : Hm} {Q : D → Hm → Prop} (q : Q d h) : OK (.ok d h) Q
def BL (d : D) (P : Bool → Prop) : Prop := match d with
  | .bl p => P p
  | _ => False
inductive NX : RT → (DS → Hm → Prop) → (D → Hm → Prop) → Prop
  | nx {s : DS} {h : Hm} {N : DS → Hm → Prop} {T : D → Hm → Prop} (q : N s h) : NX (.nx s h) N T
  | rt {d : D} {h : Hm} {N : DS → Hm → Prop} {T : D → Hm → Prop} (q : T d h) : NX (.rt d h) N T
section
variable {r : RD} {Q Q' : D → Hm → Prop} {d : D} {h h1 : Hm} {k : D → Hm → RD} {kb : Bool → Hm → RD} {P : Prop} [Decidable P] {a b : RD} {N N' : DS → Hm → Prop} {T T' : D → Hm → Prop} {s : DS}
theorem ok_ok : OK (.ok d h) Q = Q d h := propext ⟨fun x => (by cases x with | mk q => exact q), .mk⟩
theorem ok_bind : OK (r.bind k) Q = OK r fun d h => OK (k d h) Q := by
  cases r with
  | ok d h => rw [RD.bind_ok, ok_ok]
  | exc c fs h => exact propext ⟨fun x => (by cases x), fun x => (by cases x)⟩
  | bad => exact propext ⟨fun x => (by cases x), fun x => (by cases x)⟩
theorem ok_tb : OK (r.tb kb) Q = OK r fun d h => BL d fun p => OK (kb p h) Q := by
  cases r with
  | ok d h =>
    rw [ok_ok]
    cases d with
    | bl p => rfl
    | _ => exact propext ⟨fun x => (by cases x), fun x => False.elim x⟩
  | exc c fs h => exact propext ⟨fun x => (by cases x), fun x => (by cases x)⟩
  | bad => exact propext ⟨fun x => (by cases x), fun x => (by cases x)⟩
theorem bl_bl {p : Bool} {P : Bool → Prop} : BL (.bl p) P = P p := rfl
theorem ok_ite : OK (if P then a else b) Q = ((P → OK a Q) ∧ (¬ P → OK b Q)) := by
  by_cases h : P <;> simp [h]
theorem OK.mono (x : OK r Q) (k : ∀ d h, Q d h → Q' d h) : OK r Q' := by
  cases x with
  | mk q => exact .mk (k _ _ q)
theorem OK.get (x : OK r Q) : ∃ d h, r = .ok d h ∧ Q d h := by
  cases x with
  | mk q => exact ⟨_, _, rfl, q⟩
theorem OK.of (e : r = .ok d h) (q : Q d h) : OK r Q := by
  rw [e]
  exact .mk q
theorem NX.mono {r : RT} (x : NX r N T) (k : ∀ s h, N s h → N' s h) (k' : ∀ d h, T d h → T' d h) : NX r N' T' := by
  cases x with
  | nx q => exact .nx (k _ _ q)
  | rt q => exact .rt (k' _ _ q)
variable {f c fo fi : FE} {g ga gb : FS} {i : Nat}
theorem nx_seq (x : NX (ga s h) (fun s1 h1 => NX (gb s1 h1) N T) T) : NX (gSeq ga gb s h) N T := by
  rw [x_seq]
  generalize ga s h = r at x
  cases x with
  | nx q => exact q
  | rt q => exact .rt q
theorem nx_set (x : OK (f s h) fun d h1 => N (s.set i (some d)) h1) : NX (gSet i f s h) N T := by
  rw [x_set]
  obtain ⟨d, h1, e, q⟩ := x.get
  rw [e]
  exact .nx q
theorem nx_ret (x : OK (f s h) T) : NX (gRet f s h) N T := by
  rw [x_ret]
  obtain ⟨d, h1, e, q⟩ := x.get
  rw [e]
  exact .rt q
theorem nx_drop (x : OK (f s h) fun _ h1 => N s h1) : NX (gDrop f s h) N T := by
  rw [x_drop]
  obtain ⟨d, h1, e, q⟩ := x.get
  rw [e]
  exact .nx q
theorem nx_next (x : N s h) : NX (gNext s h) N T := .nx x
theorem nx_if (x : OK (c s h) fun d h1 => BL d fun p => (p = true → NX (ga s h1) N T) ∧ (p = false → NX (gb s h1) N T)) : NX (gIf c ga gb s h) N T := by
  rw [x_if]
  obtain ⟨d, h1, e, q⟩ := x.get
  rw [e]
  cases d with
  | bl p =>
    cases p with
    | true => exact q.1 rfl
    | false => exact q.2 rfl
  | _ => exact False.elim q
/-- the condition's value is known -/
theorem nx_ifT (e : c s h = .ok (.bl true) h1) (x : NX (ga s h1) N T) : NX (gIf c ga gb s h) N T := by
  rw [x_if, e]
  exact x
theorem nx_ifF (e : c s h = .ok (.bl false) h1) (x : NX (gb s h1) N T) : NX (gIf c ga gb s h) N T := by
  rw [x_if, e]
  exact x
theorem nx_ifP {p : Prop} [Decidable p] (e : c s h = .ok (.bl (decide p)) h1) (x : p → NX (ga s h1) N T) (y : ¬ p → NX (gb s h1) N T) : NX (gIf c ga gb s h) N T := by
  by_cases hp : p
  · exact nx_ifT (by rw [e, decide_eq_true hp]) (x hp)
  · exact nx_ifF (by rw [e, decide_eq_false hp]) (y hp)
def lputK (d y v : D) (s : DS) (h3 : Hm) : RT := match d, y with
  | .ref n, .int k => (match h3[n]? with
    | some (.lst xs) => (match ixN xs.length k with
      | some j => .nx s (h3.set n (.lst (xs.set j v)))
      | none => .bad)
    | _ => .bad)
  | _, _ => .bad
theorem ixN_nat {n j : Nat} (e : j < n) : ixN n (j : Int) = some j := by
  unfold ixN
  have h0 : (0 : Int) ≤ (j : Int) := Int.natCast_nonneg j
  have h1 : (j : Int) < (n : Int) := Int.ofNat_lt.mpr e
  rw [if_pos h0, if_pos h1]
  rfl
theorem nx_lput {fv : FE} (x : OK (fv s h) fun v h1 => OK (fo s h1) fun d h2 => OK (fi s h2) fun y h3 => ∃ (n j : Nat) (xs : List D), d = .ref n ∧ y = .int j ∧ h3[n]? = some (.lst xs) ∧ j < xs.length ∧ N s (h3.set n (.lst (xs.set j v)))) : NX (gLput fo fi fv s h) N T := by
  unfold gLput
  obtain ⟨v, h1, e1, q⟩ := x.get
  obtain ⟨d, h2, e2, q⟩ := q.get
  obtain ⟨y, h3, e3, n, j, xs, rfl, rfl, e4, e5, q⟩ := q.get
  rw [e1, RD.st_ok, e2, RD.st_ok, e3, RD.st_ok]
  dsimp only
  rw [e4]
  dsimp only
  rw [ixN_nat e5]
  exact .nx q
/-- a def -/
theorem ok_run {n : Nat} {g : FS} {ds : List D} (x : NX (g (ds.map some ++ List.replicate (n - ds.length) none) h) (fun _ h1 => Q .non h1) Q) : OK (runB n g ds h) Q := by
  rw [x_run]
  generalize g (ds.map some ++ List.replicate (n - ds.length) none) h = r at x
  cases x with
  | nx q => exact .mk q
  | rt q => exact .mk q
/-- for i in range(n): an invariant I i s h before the turn i -/
theorem nx_loopR {gt : GT} {ck : Option (Nat × List D)} (I : Nat → DS → Hm → Prop) {n : Nat} (val : Nat → D) (hck : ∀ j s h, I j s h → chkB ck h = true)
    (turn : ∀ j s h, j < n → I j s h → ∃ s1, gt (val j) s h = .nx s1 h ∧ NX (gb s1 h) (I (j + 1)) T) : ∀ (m j : Nat) (s : DS) (h : Hm), j + m = n → I j s h → (∀ s h, I n s h → N s h) → NX (loopG ck gt gb ((List.range' j m).map val) s h) N T
  | 0, j, s, h, e, i0, fin => by
    rw [List.range'_zero, List.map_nil, loop_nil (hck _ _ _ i0)]
    have : j = n := by omega
    subst this
    exact .nx (fin _ _ i0)
  | m + 1, j, s, h, e, i0, fin => by
    obtain ⟨s1, e1, x⟩ := turn j s h (by omega) i0
    rw [List.range'_succ, List.map_cons, loop_cons (hck _ _ _ i0) e1]
    generalize gb s1 h = r at x
    cases x with
    | nx q => exact nx_loopR I val hck turn m (j + 1) _ _ (by omega) q fin
    | rt q => exact .rt q
theorem nx_forR {v : Nat} (I : Nat → DS → Hm → Prop) {n : Nat} (hn : n < 1000000) (e : f s h = .ok (.int (n : Int)) h1) (i0 : I 0 s h1)
    (turn : ∀ j s h, j < n → I j s h → NX (gb (s.set v (some (.int (j : Nat)))) h) (I (j + 1)) T) (fin : ∀ s h, I n s h → N s h) : NX (gFor (fiRg [f]) (tName v) gb s h) N T := by
  rw [for_ok (fi_rg e (by omega) (by omega)), Int.toNat_natCast, List.range_eq_range']
  exact nx_loopR I (fun i => D.int (i : Nat)) (fun _ _ _ _ => rfl) (fun j s h hj hi => ⟨_, rfl, turn j s h hj hi⟩) n 0 s h1 (by omega) i0 fin
/-- [e for i in range(n)], e with effects -/
theorem ok_lcR {gt : GT} {ft fe : FE} {p n : Nat} {s0 : DS} (I : Nat → List D → Hm → Prop) (hb : n < 1000000) (hl : ∀ j acc h, I j acc h → acc.length = j ∧ h[p]? = some (.lst acc))
    (turn : ∀ j acc h, j < n → I j acc h → ∃ s1, gt (.int (j : Nat)) s0 h = .nx s1 h ∧ ft s1 h = .ok (.bl true) h ∧ OK (fe s1 h) fun d h3 => h3[p]? = some (.lst acc) ∧ I (j + 1) (acc ++ [d]) (h3.set p (.lst (acc ++ [d])))) :
    ∀ (m j : Nat) (acc : List D) (h : Hm), j + m = n → I j acc h → (∀ acc h, I n acc h → Q (.ref p) h) → OK (lcLoop none gt ft fe p s0 ((List.range' j m).map fun i => D.int (i : Nat)) h) Q
  | 0, j, acc, h, e, i0, fin => by
    rw [List.range'_zero, List.map_nil]
    unfold lcLoop
    rw [if_pos chk_none]
    have : j = n := by omega
    subst this
    exact .mk (fin _ _ i0)
  | m + 1, j, acc, h, e, i0, fin => by
    obtain ⟨s1, e1, e2, x⟩ := turn j acc h (by omega) i0
    obtain ⟨d, h3, e3, e4, q⟩ := x.get
    rw [List.range'_succ, List.map_cons]
    unfold lcLoop
    rw [if_pos chk_none, e1]
    dsimp only
    rw [e2]
    dsimp only
    rw [e3]
    dsimp only
    rw [e4]
    dsimp only
    have hlt : acc.length < big := by
      have := (hl _ _ _ i0).1
      show acc.length < 1000000
      omega
    rw [if_pos hlt]
    exact ok_lcR I hb hl turn m (j + 1) _ _ (by omega) q fin
theorem ok_elcR {v n : Nat} {ft fe : FE} {own : List Nat} (I : Nat → List D → Hm → Prop) (hb : n < 1000000) (e : f s h = .ok (.int (n : Int)) h1) (i0 : I 0 [] (h1 ++ [.lst []])) (hl : ∀ j acc h, I j acc h → acc.length = j ∧ h[h1.length]? = some (.lst acc))
    (turn : ∀ j acc h, j < n → I j acc h → ft ((wipeD s own).set v (some (.int (j : Nat)))) h = .ok (.bl true) h ∧ OK (fe ((wipeD s own).set v (some (.int (j : Nat)))) h) fun d h3 => h3[h1.length]? = some (.lst acc) ∧ I (j + 1) (acc ++ [d]) (h3.set h1.length (.lst (acc ++ [d]))))
    (fin : ∀ acc h, I n acc h → Q (.ref h1.length) h) : OK (eLc (fiRg [f]) (tName v) ft fe own s h) Q := by
  unfold eLc
  rw [fi_rg e (by omega) (by omega)]
  dsimp only
  rw [Int.toNat_natCast, List.range_eq_range']
  exact ok_lcR I hb hl (fun j acc h hj hi => ⟨_, rfl, turn j acc h hj hi⟩) n 0 [] _ (by omega) i0 fin
end
/-! two lists of ints -/
theorem mapO_ints (n : Nat) (h : Hm) : ∀ l : List Int, mapO (toPy n h) (l.map D.int) = some (l.map PyData.int)
  | [] => rfl
  | p :: ps => by
    have e : toPy n h (.int p) = some (.int p) := by cases n <;> rfl
    simp only [List.map_cons, mapO, e, mapO_ints n h ps]
theorem toPy_ints {n : Nat} {h : Hm} {l : List Int} (e : h[n]? = some (.lst (l.map D.int))) : toPy 20 h (.ref n) = some (.list (l.map PyData.int)) := by
  show (match h[n]? with
    | some (.lst ds) => (mapO (toPy 19 h) ds).map PyData.list
    | some (.scr ds) => (mapO (toPy 19 h) ds).map PyData.list
    | _ => none) = _
  rw [e]
  dsimp only
  rw [mapO_ints]
  rfl
theorem lay_ints : ∀ l : List Int, PyData.canLayAll0 (l.map PyData.int) = true
  | [] => rfl
  | p :: ps => by
    rw [List.map_cons, PyData.canLayAll0, lay_ints ps, Bool.and_true]
    rfl
theorem dep_ints : ∀ l : List Int, PyData.depthAll (l.map PyData.int) = 0
  | [] => rfl
  | p :: ps => by
    rw [List.map_cons, PyData.depthAll, dep_ints ps]
    rfl
theorem shaped_ints (l : List Int) : SeqAt.shaped (.list (l.map PyData.int)) = true := by
  have e1 : PyData.canLay0 (.list (l.map PyData.int)) = true := lay_ints l
  have e2 : PyData.depth (.list (l.map PyData.int)) = 1 := by
    show PyData.depthAll (l.map PyData.int) + 1 = 1
    rw [dep_ints]
  simp only [SeqAt.shaped, e1, e2]
  decide
theorem eqv_ints : ∀ l r : List Int, PyData.eqvAll (l.map PyData.int) (r.map PyData.int) = decide (l = r)
  | [], [] => rfl
  | [], b :: r => rfl
  | a :: l, [] => rfl
  | a :: l, b :: r => by
    rw [List.map_cons, List.map_cons, PyData.eqvAll, eqv_ints l r]
    show ((a == b) && decide (l = r)) = _
    by_cases h1 : a = b
    · subst h1
      simp
    · simp [h1]
theorem eqB_ints {a b : Nat} {h : Hm} {l r : List Int} (ea : h[a]? = some (.lst (l.map D.int))) (eb : h[b]? = some (.lst (r.map D.int))) : eqB h (.ref a) (.ref b) = some (decide (l = r)) := by
  have h1 := toPy_ints ea
  have h2 := toPy_ints eb
  have h3 : SeqAt.shaped (.list (l.map PyData.int)) = true ∧ SeqAt.shaped (.list (r.map PyData.int)) = true := ⟨shaped_ints _, shaped_ints _⟩
  unfold eqB
  simp only [eqSc, h1, h2]
  rw [if_pos h3]
  show some (PyData.eqvAll _ _) = _
  rw [eqv_ints]
theorem eq_ints {a b : Nat} {h : Hm} {l r : List Int} (ea : h[a]? = some (.lst (l.map D.int))) (eb : h[b]? = some (.lst (r.map D.int))) : dEq (.ref a) (.ref b) h = .ok (.bl (decide (l = r))) h := by
  simp only [dEq, eqB_ints ea eb]
theorem ne_ints {a b : Nat} {h : Hm} {l r : List Int} (ea : h[a]? = some (.lst (l.map D.int))) (eb : h[b]? = some (.lst (r.map D.int))) : dNe (.ref a) (.ref b) h = .ok (.bl (!decide (l = r))) h := by
  simp only [dNe, eqB_ints ea eb]
theorem ints_ok {g : List Int → Option Int} {n : Nat} {h : Hm} {l : List Int} {i : Int} (e : h[n]? = some (.lst (l.map D.int))) (eg : g l = some i) : bInts g [.ref n] h = .ok (.int i) h := by
  simp only [bInts, e, intsD_map, eg]
end Sh

set_option Elab.async false
set_option linter.all false
set_option maxRecDepth 100000
set_option maxHeartbeats 4000000
/-! tuples: index of flat things; times an int. -/
namespace Sh
open PySem L2 PyProof.Rows PySem.Spec
section
variable {X : Cx}
def rIndexT (K : PySem.W.Frag) : V → List V → Hp → VK → Prop := fun x xs H Q => ∃ (a : Addr) (ys : List V) (y : V) (j : Nat) (z : V), x = V.ref a ∧ xs = [y] ∧ SqT K H a ys ∧ flatV y = true ∧ ys.all flatV = true ∧ ys[j]? = some z ∧ eqV z y = true ∧
  (∀ (m : Nat) (z' : V), m < j → ys[m]? = some z' → eqV z' y = false) ∧ Q (.int (j : Nat)) H
theorem mt_tindex : MtR X "tuple.index" (rIndexT X.K) := by
  intro pins s σ H x xs v us Q I rx rxs h
  obtain ⟨a, ys, y, j, z, rfl, rfl, hs, fy, fys, hz, hzj, hno, q⟩ := h
  cases rx
  cases rxs with
  | cons ry rt =>
    rename_i uy ut
    cases rt
    obtain ⟨its, rv, pl, hlen⟩ := I.tuple hs
    obtain ⟨⟨cls, dd, data, sl⟩, ho, hc, n, hd⟩ := pl
    simp only at hc hd
    subst hc hd
    obtain ⟨u, hu, ru⟩ := rv.get hz
    obtain ⟨hjl, hje⟩ := List.getElem?_eq_some_iff.mp hu
    have hvl := rv.length
    have hj : j < its.toArray.size := by simpa using hjl
    refine call_meets PySem.F.slot_tuple_index ⟨_, ho, rfl⟩ PySem.F.entry_tuple_index (PySem.F.args_tuple_index_2 _ _)
      (TI.tuple_indexAt a its.toArray n dd sl uy (eqU y) j hj ?_ ?_) ⟨ho, fun u' hu' => mem_eqAt ry fy rv fys u' (by simpa using hu'), ?_⟩
    · have e1 : its.toArray[j] = u := by simpa using hje
      rw [e1, eqU_of ru (flat_at fys hz)]
      exact hzj
    · intro m hm hmj
      have hml : m < its.length := by simpa using hm
      have hmy : m < ys.length := by omega
      have hy' : ys[m]? = some ys[m] := List.getElem?_eq_getElem hmy
      obtain ⟨u2, hu2, ru2⟩ := rv.get hy'
      obtain ⟨_, hme⟩ := List.getElem?_eq_some_iff.mp hu2
      have e1 : its.toArray[m] = u2 := by simpa using hme
      rw [e1, eqU_of ru2 (flat_at fys hy')]
      exact hno m _ hmj hy'
    · exact ⟨.int (j : Nat), H, I.tok _, ⟨_, rfl⟩, q⟩
/-- t.index(x), flat things, x there -/
def tIndex (xs ds : List D) (h : Hm) : RD := match ds with
  | [d] => if flatD d = true ∧ xs.all flatD = true then (match xs.findIdx? (fun z => eqF z d) with
    | some j => .ok (.int j) h
    | none => .bad) else .bad
  | _ => .bad
theorem ts_index : TmS X (rIndexT X.K) tIndex := by
  intro W m H h a xs us vs ds Q r ht l1 l2 p
  unfold tIndex at p
  split at p
  · rename_i d
    split at p
    · rename_i hf
      split at p
      · rename_i j hj
        cases l2 with
        | cons rv rn =>
          cases rn
          rename_i y
          obtain ⟨h1, h2, h3⟩ := List.findIdx?_eq_some_iff_getElem.mp hj
          obtain ⟨z, e1, e2⟩ := l1.get (List.getElem?_eq_getElem h1)
          refine ⟨a, us, y, j, z, rfl, rfl, ht.sqT, flat_rep rv hf.1, flat_repL l1 hf.2, e1, by rw [eqF_rep e2 rv]; exact h2, fun i z' hi hz' => ?_, p.val r (.int _)⟩
          obtain ⟨d', e3, e4⟩ := l1.get' hz'
          rw [eqF_rep e4 rv]
          obtain ⟨h5, h6⟩ := List.getElem?_eq_some_iff.mp e3
          rw [← h6]
          simpa using h3 i hi
      · exact False.elim p
    · exact False.elim p
  · exact False.elim p
/-! a tuple times an int from 1 on -/
theorem tuple_mul1 (l : Addr) (items : Array Value) (n : Nat) (dd : Option Addr) (sl : Array (Option Value)) (x : Int) (u : Tok) (c0 : (decide (x < -(2 ^ 63)) || decide (x ≥ 2 ^ 63)) = false) (c1 : (items.isEmpty || x == 1) = true) :
    Meets (Builtin.«tuple.__mul__» ⟨[.ref l, .int x u], []⟩) (fun _ R s => s.heap.get? l = some { cls := .type "tuple", dict := dd, data := .seq items n, slots := sl } ∧ R (.ok (.ret (Value.ref l))) s) :=
  .of_wp fun prog w A R s h => by
    obtain ⟨hp, g, d, tk, os⟩ := s
    obtain ⟨hl, h⟩ := h
    have f1 := AutoSeq1.idx_int
    wp_walk using wpAny_loadPart' hl
    repeat (first
      | (refine wpAny_ite_false (decide_eq_false (by rw [c0]; exact Bool.false_ne_true)) ?_; wp_walk using wpAny_loadPart' hl)
      | (refine wpAny_ite_true (decide_eq_true c1) ?_; wp_walk using wpAny_loadPart' hl))
    exact ⟨_, rfl, h⟩
def rRepTF (K : PySem.W.Frag) : R2 := fun x y H Q => ∃ l k xs, x = .ref l ∧ y = .int k ∧ SqT K H l xs ∧ xs ≠ [] ∧ 1 ≤ k ∧ k ≤ 1000 ∧ xs.length ≤ 1000 ∧ (k = 1 → Q (.ref l) H) ∧ (k ≠ 1 → rTupF (List.replicate k.toNat xs).flatten H Q)
theorem op_repTF : OpR X (binaryOp .Mult) (rRepTF X.K) := by
  intro pins s σ H x y v u Q I rx ry h
  obtain ⟨l, k, xs, rfl, rfl, hT, hne, h1, h2, hz, q1, q2⟩ := h
  cases rx
  obtain ⟨t, rfl⟩ := ry
  obtain ⟨its, r, ⟨⟨cls, dd, data, sl⟩, ho, hc, n, hd⟩, hs⟩ := I.tuple hT
  simp only at hc hd
  subst hc hd
  have hle : its.length = xs.length := r.length.symm
  have hn : its ≠ [] := fun e => hne (by
    rw [e] at hle
    exact List.eq_nil_of_length_eq_zero hle.symm)
  have hi : its.toArray.isEmpty = false := by
    cases its with
    | nil => exact absurd rfl hn
    | cons a b => rfl
  have hsz0 : its.toArray.size = xs.length := by rw [List.size_toArray, hle]
  have hm : ((its.toArray.size : Nat) : Int) * k ≤ 1000000 := by
    rw [hsz0]
    have a1 : ((xs.length : Nat) : Int) * k ≤ 1000 * k := Int.mul_le_mul_of_nonneg_right (by omega) (by omega)
    omega
  have flen : (List.replicate k.toNat its).flatten.length ≤ sizeLine := by
    rw [PyProof.Rows.lm_len_rep_flat, hle, sizeLine_eq]
    have a1 : k.toNat * xs.length ≤ 1000 * 1000 := Nat.mul_le_mul (by omega) hz
    omega
  have c0 : (decide (k < -(2 ^ 63)) || decide (k ≥ 2 ^ 63)) = false := by
    rw [decide_eq_false (by omega), decide_eq_false (by omega)] <;> rfl
  by_cases hk : k = 1
  · have c1 : (its.toArray.isEmpty || k == 1) = true := by
      rw [hi, Bool.false_or]
      exact beq_iff_eq.mpr hk
    refine wpAny_binaryOp_repeat_ref (T := "tuple") (U := "int") (by decide) ⟨_, ho, rfl⟩ (fun s' => typeIs_int s' k t) noFill_tuple_mul F.fills_int_mul F.slot_int_rmul repeat_tuple F.slot_int_index.lookup
      (call_meets F.slot_int_rmul (typeIs_int s k t) F.entry_int_rmul (F.args_int_rmul_2 _ _) (int_rmul_tuple k t l its.toArray n dd sl)
        ⟨ho, rfl, ⟨_, ho, rfl⟩, call_meets F.slot_tuple_mul ⟨_, ho, rfl⟩ F.entry_tuple_mul (F.args_tuple_mul_2 _ _) (tuple_mul1 l its.toArray n dd sl k t c0 c1) ⟨ho, ?_⟩⟩)
    exact ⟨.ref l, H, I, rfl, q1 hk⟩
  · have c1 : (its.toArray.isEmpty || k == 1) = false := by
      rw [hi, Bool.false_or]
      exact beq_eq_false_iff_ne.mpr hk
    have c2 : (decide (k ≤ 0) || its.toArray.isEmpty) = false := by
      rw [hi, Bool.or_false]
      exact decide_eq_false (by omega)
    have c4 : Builtin.Tuple.tupleTooMany (((its.toArray.size : Nat) : Int) * k) = false := by
      unfold Builtin.Tuple.tupleTooMany
      rw [sizeLine_eq]
      exact decide_eq_false (by omega)
    refine wpAny_binaryOp_repeat_ref (T := "tuple") (U := "int") (by decide) ⟨_, ho, rfl⟩ (fun s' => typeIs_int s' k t) noFill_tuple_mul F.fills_int_mul F.slot_int_rmul repeat_tuple F.slot_int_index.lookup
      (call_meets F.slot_int_rmul (typeIs_int s k t) F.entry_int_rmul (F.args_int_rmul_2 _ _) (int_rmul_tuple k t l its.toArray n dd sl)
        ⟨ho, rfl, ⟨_, ho, rfl⟩, call_meets F.slot_tuple_mul ⟨_, ho, rfl⟩ F.entry_tuple_mul (F.args_tuple_mul_2 _ _) (tuple_mulW l its.toArray n dd sl k t c0 c1 c2 (by omega) c4 (by rw [size_rep, List.size_toArray]; exact flen)) ⟨ho, ?_⟩⟩)
    rw [size_rep]
    have flen2 : (List.replicate k.toNat xs).flatten.length ≤ sizeLine := by
      rw [PyProof.Rows.lm_len_rep_flat, sizeLine_eq]
      have a1 : k.toNat * xs.length ≤ 1000 * 1000 := Nat.mul_le_mul (by omega) hz
      omega
    exact ⟨.ref s.heap.objs.size, _, Inv.tupF I (r.rep k.toNat) flen2 s.toks, rfl, q2 hk _ _ (I.hok.fresh (Nat.le_refl _)) rfl⟩
def dMulT (x y : D) (h : Hm) : RD := match x, y with
  | .tup xs, .int k => if xs ≠ [] ∧ 1 ≤ k ∧ k ≤ 1000 ∧ xs.length ≤ 1000 then .ok (.tup (List.replicate k.toNat xs).flatten) h else .bad
  | _, _ => .bad
theorem os_mulT : OpS X (rRepTF X.K) dMulT := by
  intro W m H h x y dx dy Q r rx ry p
  unfold dMulT at p
  split at p
  · rename_i xs k
    split at p
    · rename_i hc
      obtain ⟨a, vs, rfl, t, l⟩ := rx.tup_inv
      cases ry
      have e1 := l.length
      refine ⟨a, k, vs, rfl, rfl, t.sqT, ?_, hc.2.1, hc.2.2.1, by omega, fun hk => ?_, fun hk q o hq ho => PostE.tup p r (l.flat _) q o hq ho⟩
      · intro z
        rw [z] at e1
        exact hc.1 (List.eq_nil_of_length_eq_zero e1.symm)
      · subst hk
        have e : (List.replicate (1 : Int).toNat xs).flatten = xs := by simp
        rw [e] at p
        exact p.val r rx
    · exact False.elim p
  · exact False.elim p
/-! a comprehension within another one -/
def relabelS (scope sc : Scope) : Scope := { scope with names := scope.names.map fun (n, k) => if (k == .free && sc.kind == .function && sc.names.lookup n == some .cell) then (n, .cell) else (n, k) }
theorem blk_nest {X : Cx} {s : Shared} {H : Hp} {sc1 scope : Scope} {cl : List (Str × Addr)} {C : Addr} {fp : List Addr} {N : List Str} {own : List (Str × Nat)} (D : Scope) (hD : X.env.scope = D) (ok : BlkOk N (relabelS sc1 D) scope own) :
    BlkOk N (X.blk s H sc1 (compEnvC sc1 cl C X.env) fp).env.scope scope own := by
  subst hD
  exact ok
end
end Sh

set_option Elab.async false
set_option linter.all false
set_option maxRecDepth 100000
set_option maxHeartbeats 4000000
/-! Exceptions with a field: class X(B) with def __init__(self, f): B.__init__(self, 'text'); self.f = f, where B has no __init__ of its own. -/
namespace Sh
open PySem L2 PyProof.Rows
/-! B.__init__(self, ..) -/
section
variable {X : Cx} {e : Expr} {es : List Expr} {ta : TA} {x : Str} {C0 : Addr} {p1 p2 pos : Pos}
theorem pe_binit {pl : Sem Bool} (hg : Gl X x) (gC : X.mg x = some (.ref C0)) (r : ClX.CRead X.K C0 (.type "type")) (vV : PySem.W.findCls X.K (.ref C0) (.type "type") "__init__" = some (.val (.builtin "ValueError.__init__"))) (ha : PA X (e :: es) ta)
    (hdb : (x == ("__debug__" : Str)) = false := by decide)
    (hc : eval (.Call (.Attribute (.Name x p1) "__init__" p2) (e :: es) [] pos) X.env = (do
      let ov ← eval (.Name x p1) X.env
      standAt p2.atName
      let (f, first) ← holding [ov] (getMethod ov "__init__" pl)
      callWith pos f first (backTo pos (starEach (e :: es) X.env)) (backToKw pos (keywordEach [] X.env))) := by rfl)
    (he : starEach (e :: es) X.env = (false, eval e X.env) :: starEach es X.env := by rfl) (hpl : (backTo pos (starEach es X.env)).any (·.1) = false := by rfl) :
    PE X (.Call (.Attribute (.Name x p1) "__init__" p2) (e :: es) [] pos) (tVeI X.K ta) := by
  refine ⟨fun pins s σ H Q I h => ?_⟩
  refine PySem.W.methodCall_KW (ld_glob I hg gC ?_ hdb) hc
  refine PySem.W.method_cls I.kIn r.ga (PySem.W.cls_value I.kIn r.rd vV (by decide +kernel) ?_)
  show wpAny _ _ (callWith pos (Value.builtin "ValueError.__init__") [] (backTo pos (starEach (e :: es) X.env)) []) _ _ _
  refine PyProof.Rows.callWith_method1 (thn (ha.run pos pins _ σ H _ (I.tok _) h) fun us s1 ⟨vs, H1, I1, r1, a, C, ws, ev, hl, T, ea, q⟩ => ?_) he hpl
  subst ev
  cases r1 with
  | @cons _ u0 _ ur ra rw' =>
    obtain rfl : u0 = Value.ref a := ra
    have hlen : ur.length ≤ sizeLine := by
      rw [← Paired.length rw', sizeLine_eq]
      omega
    exact oinit_ok T I1 ea hlen fun s' J => ⟨.non, H1, J, rfl, q⟩
end
/-- what __init__ of such a class does -/
def spF1 (K : PySem.W.Frag) (f : Str) : Sp := fun vs H Q _ => ∃ (a C : Addr) (v : V), vs = [.ref a, v] ∧ OexC K C ∧ PySem.W.findIn K (.ref C) f = some none ∧ H a = some (exo a C none) ∧
  ∀ dx, H dx = none → dx ≠ a → Q .non (upd (upd H dx (exd dx [(f, v)])) a (exo a C (some dx)))
/-- the class, as the written part tells it -/
structure FldC (X : Cx) (x f : Str) (C fI : Addr) (fd : FuncData) (ps : List Str) (k : Nat) : Prop where
  gC : X.mg x = some (.ref C)
  ox : OexC X.K C
  no : PySem.W.findIn X.K (.ref C) f = some none
  iC : PySem.W.findIn X.K (.ref C) "__init__" = some (some (.ref fI))
  tI : PySem.W.typeIn X.K (.ref fI) = some (.type "function")
  b : Binds X.K fd ps []
  F : FnOk X.prog X.w X.K X.mg X.base (L2.CX X.prog X.w) k fI fd ps (spF1 X.K f)
section
variable {X : Cx} {W : WX} {e : Expr} {fe : FE} {x f : Str} {C fI : Addr} {fd : FuncData} {ps : List Str} {k : Nat} {p pos pos' : Pos} {te : TE}
theorem pmk_fld (T : FldC X x f C fI fd ps k) (hr : Room (k + 1) X.A) (tk0 : Passes (L2.CX X.prog X.w) X (fun _ _ _ => False)) (hg : Gl X x) (he : SE X W e fe)
    (hdb : (x == ("__debug__" : Str)) = false := by decide) (h1 : starEach [e] X.env = (false, eval e X.env) :: starEach [] X.env := by rfl) (hpl : (backTo pos (starEach [] X.env)).any (·.1) = false := by rfl) :
    PMk X (.Call (.Name x p) [e] [] pos) (fun σ H Q => tS X.K X.mg W fe σ H fun v H1 => ∀ d, H1 d = none → Q (.ref C) (some d) (upd H1 d (.xd [(f, v)]))) := by
  intro pins s σ H Q I h
  refine pmk_oex (sp := spF1 X.K f) (ds := []) (dvs := []) T.ox T.iC T.tI T.F hr T.b .nil tk0 hg T.gC (pa_cons he pa_nil h1) hdb h1 hpl pins s σ H Q I ?_
  obtain ⟨m, sd, hm, R0, rs, q⟩ := h
  refine ⟨m, sd, hm, R0, rs, PostE.mono q ?_⟩
  intro v H1 q1
  refine ⟨by show 1 ≤ 1000; decide, fun a ha => ⟨a, C, v, rfl, T.ox, T.no, upd_same, fun dx hdx hne => ⟨rfl, dx, [(f, v)], upd_same, ?_, ?_, ?_⟩⟩⟩
  · rw [upd_ne hne, upd_same]
  · rw [← hdx, upd_ne hne]
  · have hH : H1 dx = none := by rw [← hdx, upd_ne hne]
    have : upd (del (upd (upd (upd H1 a (exo a C none)) dx (exd dx [(f, v)])) a (exo a C (some dx))) a) dx (.xd [(f, v)]) = upd H1 dx (.xd [(f, v)]) := by
      funext b
      by_cases hb : b = dx
      · rw [hb, upd_same, upd_same]
      · rw [upd_ne hb, upd_ne hb]
        by_cases hba : b = a
        · rw [hba, del_same, ha]
        · rw [del_ne hba, upd_ne hba, upd_ne hb, upd_ne hba]
    rw [this]
    exact q1 dx hH
/-- raise X(e) -/
def gRaiseF (c f : Str) (fe : FE) : FS := fun s h => match fe s h with
  | .ok d h' => .exc c [(f, d)] s h'
  | .exc c' fs h' => .exc c' fs s h'
  | .bad => .bad
theorem ss_raiseF (hc : X.calm = true) (tk : Takes X W) (T : FldC X x f C fI fd ps k) (hr : Room (k + 1) X.A) (tk0 : Passes (L2.CX X.prog X.w) X (fun _ _ _ => False)) (hg : Gl X x) (he : SE X W e fe) (hdb : (x == ("__debug__" : Str)) = false := by decide)
    (h1 : starEach [e] X.env = (false, eval e X.env) :: starEach [] X.env := by rfl) (hpl : (backTo pos' (starEach [] X.env)).any (·.1) = false := by rfl) : SS X W (.Raise (some (.Call (.Name x p) [e] [] pos')) none pos) (gRaiseF x f fe) := by
  refine PS.imp (ps_raise hc tk (pmk_fld T hr tk0 hg he hdb h1 hpl)) fun D σ H h => ?_
  obtain ⟨m, s, h, R0, rs, q⟩ := h
  refine ⟨m, s, h, R0, rs, ?_⟩
  unfold gRaiseF at q
  generalize fe s h = r at q
  cases r with
  | ok d h' =>
    intro m' H' v g R' rv dx hdx
    have g2 : Grow m' H' m' (upd H' dx (.xd [(f, v)])) := Grow.new hdx
    exact q m' (upd H' dx (.xd [(f, v)])) σ (.ref C) (some dx) (g.trans g2) (R'.tup hdx) (rs.grow (g.trans g2)) ⟨C, T.gC, rfl, fun _ => ⟨dx, _, rfl, upd_same, .cons ⟨rfl, rv.grow g2⟩ .nil⟩⟩
  | exc c fs h' =>
    intro m' H' cls dx g R' ex
    exact q m' H' σ cls dx g R' (rs.grow g) ex
  | bad => exact q
end
/-! the __init__ -/
section
variable {P : Program} {w : World} {K : PySem.W.Frag} {mg : Str → Option Value} {base : Heap} {qual f msg : Str} {st : Stmt} {fI : Addr} {fd : FuncData} {k : Nat} {N : List Str}
theorem okF1 (hN : N.length = 2) (Fu : Fun K "__init__" qual st fI fd) (S : FnScope N N (defScope st))
    (hb : ∀ (cdv : Value) (A : Around) (outer : List Env) (s : Shared) (H : Hp) (E : XK), Room k (A.deeper (envOfC qual (defScope st) s.heap.objs.size fI cdv)) →
      PSs (cxOf (L2.CX P w) P w K mg base N qual (defScope st) fI cdv A outer s H E) (defBody st) (tSeq (tDrop (tVeI K (tCons (tVar 0) (tCons (tC (.str msg)) tNil)))) (tOst K f (tVar 0) (tVar 1)))) :
    FnOk P w K mg base (L2.CX P w) (k + 1) fI fd N (spF1 K f) := by
  refine Fu.okX S (fun vs H Q E h => ?_) fun cdv A outer s H vs Q E hr h => ⟨_, hb cdv A outer s H E hr, ?_⟩
  · obtain ⟨a, C, v, rfl, _⟩ := h
    exact hN.symm
  · obtain ⟨a, C, v, rfl, ox, no, ea, q⟩ := h
    refine ⟨.ref a, ?_, a, C, [.str msg], rfl, by simp, ox, ea, v, ?_, .ref a, ?_, a, C, rfl, ox, no, .inl ⟨ea, fun dx n ne => q dx n ne⟩⟩ <;>
    · match N, hN with
      | [x, y], _ => rfl
end
/-! try .. except X as e: y = e.f; y = (word, e.f) -/
def gTryF (l : SubT) (gb : FS) (x : Str) (k : List (Str × D) → FS) : FS := fun s h => match gb s h with
  | .exc c fs s' h' => (match subT l c x with
    | some true => if c = x then k fs s' h' else .bad
    | some false => .exc c fs s' h'
    | none => .bad)
  | r => r
/-- the suite: i the slot of e, j the slot of y -/
def gXfA (i j : Nat) (f : Str) (mk : D → D) (fs : List (Str × D)) : FS := fun s h => if i < s.length then (match fs.lookup f with
  | some d => .nx ((s.set i none).set j (some (mk d))) h
  | none => .bad) else .bad
theorem set_three {σ : L2.St} {i j : Nat} (hij : i ≠ j) (x y : Option V) : ((σ.set i x).set j y).set i none = (σ.set i none).set j y := by
  rw [List.set_comm _ _ hij, List.set_set, List.set_comm _ _ hij]
section
variable {X : Cx} {W : WX} {body : List Stmt} {gb : FS} {x f n y w : Str} {C : Addr} {i j : Nat} {np nq py pe_ spos pos pos' tpos : Pos} {l : SubT} {cj tj : Nat}
theorem ss_tryF (hst : X.stack = X.env :: X.outer) (hf : X.env.frame = some X.env.locals) (hN : X.N.Nodup) (hi : X.N[i]? = some n) (hj : X.N[j]? = some y) (hij : i ≠ j) (hln : X.env.kindOf n = some .local) (hg : Gl X x) (gC : X.mg x = some (.ref C)) (tk : Takes X W) (S : SubOk X.K X.mg l)
    (T : XfC X.K C) (hno : PySem.W.findIn X.K (.ref C) f = some none)
    (hb : ∀ (W : WX) (pn : List (Addr × Obj)) (xe : Value → Shared → Prop), Takes (X.tr pn xe) W → PassesOwn (model X.prog X.w) X.A X.env xe → SSs (X.tr pn xe) W body gb)
    (hv : ∀ (a : Addr) (oe : Obj) (pn : List (Addr × Obj)), PE (X.suite a ((a, oe) :: pn)) (.Name n nq) (tVar i))
    (hat : ∀ (a : Addr) (oe : Obj) (pn : List (Addr × Obj)), attributeBase (.Name n nq) f (X.suite a ((a, oe) :: pn)).env (eval (.Name n nq) (X.suite a ((a, oe) :: pn)).env) = eval (.Name n nq) (X.suite a ((a, oe) :: pn)).env := by intros; rfl)
    (hset : ∀ (a : Addr) (oe : Obj) (pn : List (Addr × Obj)) (te : TE), PE (X.suite a ((a, oe) :: pn)) (.Attribute (.Name n nq) f pe_) te → PS (X.suite a ((a, oe) :: pn)) (.Assign [.Name y py] (.Attribute (.Name n nq) f pe_) spos) (tAsg te (gName j)))
    (hdb : (x == ("__debug__" : Str)) = false := by decide) :
    SS X W (.Try body [.ExceptHandler (some (.Name x np)) (some n) [.Assign [.Name y py] (.Attribute (.Name n nq) f pe_) spos] pos'] [] [] pos) (gTryF l gb x (gXfA i j f id)) := by
  refine PS.imp (ps_try_as (i := i) (c := .ref C) (tb := fun W => tSS X.K X.mg W gb) (ts := fun a cls d => tAsg (tXf a cls d C f (tVar i)) (gName j)) hst hf hN hi hln ⟨hg, hdb, .inl gC⟩ tk hb (fun a oe cls d pn hz hd => pss_one (hset a oe pn _ (pe_xf T hno hz hd (hv a oe pn) (hat a oe pn))))) fun D σ H h => ?_
  obtain ⟨m, s, h, R0, rs, p⟩ := h
  refine ⟨m, s, h, R0, rs, ?_⟩
  unfold gTryF at p
  generalize gb s h = r at p
  cases r with
  | exc c fs s' h' =>
    intro m' H' σ' cls dx g R' rs' ex
    obtain ⟨Cc, e1, e2, e3⟩ := id ex
    dsimp only at p
    split at p
    · rename_i hb
      split at p
      · rename_i hc
        subst hc
        refine ⟨true, by rw [e2]; exact subT_ok S hb e1 gC, fun _ a ha => ?_, fun z => Bool.noConfusion z⟩
        unfold gXfA at p
        split at p
        case isFalse => exact False.elim p
        rename_i hil
        split at p
        · rename_i d hd
          have hne : fs ≠ [] := by rintro rfl; cases hd
          obtain ⟨dd, fv, ed, eH, rf⟩ := e3 hne
          obtain ⟨v, hv1, rv⟩ := (RepF.look rf).1 _ hd
          have hCC : Cc = C := by rw [e1] at gC; cases gC; rfl
          subst hCC
          refine ⟨.ref a, ?_, rfl, e2, dd, fv, v, ed, eH, hv1, ?_⟩
          · exact List.getElem?_set_self (by rw [rs'.1]; exact hil)
          · show D.nx (((σ'.set i (some (.ref a))).set j (some v)).set i none) H'
            rw [set_three hij]
            exact p m' H' _ g R' ((rs'.clr i).set j rv)
        · exact False.elim p
      · exact False.elim p
    · rename_i hb
      exact ⟨false, by rw [e2]; exact subT_ok S hb e1 gC, fun z => Bool.noConfusion z, fun _ => p m' H' σ' cls dx g R' rs' ex⟩
    · exact False.elim p
  | nx s h => exact p
  | bk s h => exact p
  | ct s h => exact p
  | rt d h => exact p
  | bad => exact p
variable {cp : Pos}
theorem ss_tryF2 (hst : X.stack = X.env :: X.outer) (hf : X.env.frame = some X.env.locals) (hN : X.N.Nodup) (hi : X.N[i]? = some n) (hj : X.N[j]? = some y) (hij : i ≠ j) (hln : X.env.kindOf n = some .local) (hg : Gl X x) (gC : X.mg x = some (.ref C)) (tk : Takes X W) (S : SubOk X.K X.mg l)
    (T : XfC X.K C) (hno : PySem.W.findIn X.K (.ref C) f = some none)
    (hb : ∀ (W : WX) (pn : List (Addr × Obj)) (xe : Value → Shared → Prop), Takes (X.tr pn xe) W → PassesOwn (model X.prog X.w) X.A X.env xe → SSs (X.tr pn xe) W body gb)
    (hv : ∀ (a : Addr) (oe : Obj) (pn : List (Addr × Obj)), PE (X.suite a ((a, oe) :: pn)) (.Name n nq) (tVar i))
    (hat : ∀ (a : Addr) (oe : Obj) (pn : List (Addr × Obj)), attributeBase (.Name n nq) f (X.suite a ((a, oe) :: pn)).env (eval (.Name n nq) (X.suite a ((a, oe) :: pn)).env) = eval (.Name n nq) (X.suite a ((a, oe) :: pn)).env := by intros; rfl)
    (hset : ∀ (a : Addr) (oe : Obj) (pn : List (Addr × Obj)) (te : TE), PE (X.suite a ((a, oe) :: pn)) (.Attribute (.Name n nq) f pe_) te → PS (X.suite a ((a, oe) :: pn)) (.Assign [.Name y py] (.Tuple [.Constant (.str w) cj cp, .Attribute (.Name n nq) f pe_] tj tpos) spos) (tAsg (tTupF (tCons (tC (.str w)) (tCons te tNil))) (gName j)))
    (hdb : (x == ("__debug__" : Str)) = false := by decide) :
    SS X W (.Try body [.ExceptHandler (some (.Name x np)) (some n) [.Assign [.Name y py] (.Tuple [.Constant (.str w) cj cp, .Attribute (.Name n nq) f pe_] tj tpos) spos] pos'] [] [] pos) (gTryF l gb x (gXfA i j f fun d => .tup [.str w, d])) := by
  refine PS.imp (ps_try_as (i := i) (c := .ref C) (tb := fun W => tSS X.K X.mg W gb) (ts := fun a cls d => tAsg (tTupF (tCons (tC (.str w)) (tCons (tXf a cls d C f (tVar i)) tNil))) (gName j)) hst hf hN hi hln ⟨hg, hdb, .inl gC⟩ tk hb (fun a oe cls d pn hz hd => pss_one (hset a oe pn _ (pe_xf T hno hz hd (hv a oe pn) (hat a oe pn))))) fun D σ H h => ?_
  obtain ⟨m, s, h, R0, rs, p⟩ := h
  refine ⟨m, s, h, R0, rs, ?_⟩
  unfold gTryF at p
  generalize gb s h = r at p
  cases r with
  | exc c fs s' h' =>
    intro m' H' σ' cls dx g R' rs' ex
    obtain ⟨Cc, e1, e2, e3⟩ := id ex
    dsimp only at p
    split at p
    · rename_i hb
      split at p
      · rename_i hc
        subst hc
        refine ⟨true, by rw [e2]; exact subT_ok S hb e1 gC, fun _ a ha => ?_, fun z => Bool.noConfusion z⟩
        unfold gXfA at p
        split at p
        case isFalse => exact False.elim p
        rename_i hil
        split at p
        · rename_i d hd
          have hne : fs ≠ [] := by rintro rfl; cases hd
          obtain ⟨dd, fv, ed, eH, rf⟩ := e3 hne
          obtain ⟨v, hv1, rv⟩ := (RepF.look rf).1 _ hd
          have hCC : Cc = C := by rw [e1] at gC; cases gC; rfl
          subst hCC
          refine ⟨.ref a, ?_, rfl, e2, dd, fv, v, ed, eH, hv1, ?_, ?_⟩
          · exact List.getElem?_set_self (by rw [rs'.1]; exact hil)
          · rw [sizeLine_eq]; simp
          · intro q o hq ho
            show D.nx (((σ'.set i (some (.ref a))).set j (some (.ref q))).set i none) (upd H' q (.frz o (.tup [.str w, v])))
            rw [set_three hij]
            have g2 : Grow m' H' m' (upd H' q (.frz o (.tup [.str w, v]))) := Grow.new hq
            exact p m' _ _ (g.trans g2) (R'.tup hq) (((rs'.grow g2).clr i).set j (.tup (.inl ⟨o, upd_same, ho⟩) (.cons (.str w) (.cons (rv.grow g2) .nil))))
        · exact False.elim p
      · exact False.elim p
    · rename_i hb
      exact ⟨false, by rw [e2]; exact subT_ok S hb e1 gC, fun z => Bool.noConfusion z, fun _ => p m' H' σ' cls dx g R' rs' ex⟩
    · exact False.elim p
  | nx s h => exact p
  | bk s h => exact p
  | ct s h => exact p
  | rt d h => exact p
  | bad => exact p
end
/-! what gen.py writes -/
structure FldAt (K : PySem.W.Frag) (mg : Str → Option Value) (x b f qual : Str) (st : Stmt) (ps : List Str) where
  C : Addr
  C0 : Addr
  fI : Addr
  fd : FuncData
  g : mg x = some (.ref C)
  g0 : mg b = some (.ref C0)
  ox : OexC K C
  no : PySem.W.findIn K (.ref C) f = some none
  xf : XfC K C
  iC : PySem.W.findIn K (.ref C) "__init__" = some (some (.ref fI))
  tI : PySem.W.typeIn K (.ref fI) = some (.type "function")
  fn : Fun K "__init__" qual st fI fd
  bi : Binds K fd ps []
  r0 : ClX.CRead K C0 (.type "type")
  v0 : PySem.W.findCls K (.ref C0) (.type "type") "__init__" = some (.val (.builtin "ValueError.__init__"))
theorem FldAt.t {X : Cx} {x b f qual : Str} {st : Stmt} {ps : List Str} (T : FldAt X.K X.mg x b f qual st ps) {k : Nat} (F : FnOk X.prog X.w X.K X.mg X.base (L2.CX X.prog X.w) k T.fI T.fd ps (spF1 X.K f)) : FldC X x f T.C T.fI T.fd ps k :=
  ⟨T.g, T.ox, T.no, T.iC, T.tI, T.bi, F⟩
theorem pass00 {X : Cx} : Passes (L2.CX X.prog X.w) X (fun _ _ _ => False) := fun pins σ H s e s' I c => passAt (W := W0) takesW0 σ pins H s e s' I c
end Sh

set_option Elab.async false
set_option linter.all false
set_option maxRecDepth 100000
set_option maxHeartbeats 4000000
/-! {k: v for x in xs if ..} -/
namespace Sh
open PySem L2 PyProof.Rows
/-- the new dict stands at n -/
def dcLoop (ck : Option (Nat × List D)) (gt : GT) (ft fk fe : FE) (n : Nat) (s0 : DS) : List D → Hm → RD
  | [], h => if chkB ck h = true then .ok (.ref n) h else .bad
  | x :: xs, h => if chkB ck h = true then (match gt x s0 h with
    | .nx s1 h1 => (match ft s1 h1 with
      | .ok (.bl true) h2 => (match fk s1 h2 with
        | .ok y h3 => (match fe s1 h3 with
          | .ok d h4 => (match keyD y, h4[n]? with
            | some k, some (.dk acc) => if acc.length < big then dcLoop ck gt ft fk fe n s0 xs (h4.set n (.dk (putKD acc k d))) else .bad
            | _, _ => .bad)
          | _ => .bad)
        | _ => .bad)
      | .ok (.bl false) h2 => dcLoop ck gt ft fk fe n s0 xs h2
      | _ => .bad)
    | _ => .bad) else .bad
def eDc (fi : FI) (gt : GT) (ft fk fe : FE) (own : List Nat) : FE := fun s h => match fi s h with
  | .ok xs ck h1 => dcLoop ck gt ft fk fe h1.length (wipeD s own) xs (h1 ++ [.dk []])
  | .exc c fs h1 => .exc c fs h1
  | .bad => .bad
section
variable {X : Cx} {W : WX}
theorem dc_ok {wi : TI} {fi : FI} {gt : GT} {ft fk fe : FE} {vs own : List Nat} {wk : Bool} (hv : ∀ i ∈ vs, i ∈ own) {σ : L2.St} {H : Hp} {Q : VK} (h : tS X.K X.mg W (eDc fi gt ft fk fe own) σ H Q) :
    tDc (tSI X.K X.mg W wk fi) (tSG X.K X.mg wk vs gt) (tST X.K X.mg W0 ft) (tS X.K X.mg W0 fk) (tS X.K X.mg W0 fe) own σ H Q := by
  obtain ⟨m, s, h, R0, rs, p⟩ := h
  refine ⟨m, s, h, R0, rs, ?_⟩
  unfold eDc at p
  generalize fi s h = r at p
  cases r with
  | exc c fs h1 => exact p
  | bad => exact p
  | ok xs ck h1 =>
    intro m1 H1 J g1 R1 wd Dn hD
    replace p := PostE.grow (show PostE X.K X.mg (fun c d H' => W c d σ H') m H (dcLoop ck gt ft fk fe h1.length (wipeD s own) xs (h1 ++ [.dk []])) Q from p) g1
    have gN : Grow m1 H1 (m1 ++ [Dn]) (upd H1 Dn (.dK [])) := Grow.newr hD
    have RN : R X.K X.mg (m1 ++ [Dn]) (upd H1 Dn (.dK [])) (h1 ++ [.dk []]) := R1.new hD ⟨[], upd_same, .nil⟩
    have nN : (m1 ++ [Dn])[h1.length]? = some Dn := R1.newAt
    generalize h1.length = n at p nN
    generalize h1 ++ [O.dk []] = hN at p RN
    generalize m1 ++ [Dn] = mN at gN RN nN
    generalize hHN : upd H1 Dn (.dK []) = HN at gN RN
    let Wk : Nat → Hp → Prop := fun i H => ∃ m h, Grow mN HN m H ∧ R X.K X.mg m H h ∧ PostE X.K X.mg (fun c d H' => W c d σ H') m H (dcLoop ck gt ft fk fe n (wipeD s own) (xs.drop i) h) Q
    refine ⟨fun i k H => k = xs.length - i ∧ i ≤ xs.length ∧ Wk i H, ⟨xs.length, by simp, Nat.zero_le _, mN, hN, Grow.refl _ _, RN, PostE.grow p gN⟩, ?_⟩
    rintro i k H2 ⟨rfl, hi, m2, h2, g2, R2, p2⟩
    by_cases hlt : i < xs.length
    case neg =>
      have e : i = xs.length := by omega
      subst e
      rw [List.drop_length] at p2
      unfold dcLoop at p2
      split at p2
      case isFalse => exact False.elim p2
      rename_i hck
      exact .inl ⟨(wd _ m2 H2 h2 (gN.trans g2) R2 hck).2 (Nat.le_refl _), p2 m2 H2 _ (Grow.refl _ _) R2 (.ref (g2.loc _ _ nN))⟩
    rw [List.drop_eq_getElem_cons hlt] at p2
    unfold dcLoop at p2
    split at p2
    case isFalse => exact False.elim p2
    rename_i hck
    obtain ⟨hgo, hyl⟩ := (wd i m2 H2 h2 (gN.trans g2) R2 hck).1 xs[i] (List.getElem?_eq_getElem hlt)
    refine .inr ⟨hgo, Wk (i + 1), fun H' q => ⟨xs.length - (i + 1), by omega, rfl, hlt, q⟩, fun v H3 hy => ?_⟩
    obtain ⟨g3, R3, rep⟩ := hyl v H3 hy
    refine ⟨m2, wipeD s own, h2, xs[i], R3, ((rs.grow (g1.trans (gN.trans (g2.trans g3)))).wipe own), rep, ?_⟩
    generalize gt xs[i] (wipeD s own) h2 = q at p2
    cases q
    case nx s4 h4 =>
      intro m4 H4 σ4 g4 R4 rs4 hw
      refine ⟨(hw own hv).trans wipe_wipe, m4, s4, h4, R4, rs4, ?_⟩
      replace p2 := PostE.grow p2 (g3.trans g4)
      have gg := g2.trans (g3.trans g4)
      try dsimp only at p2
      generalize ft s4 h4 = q2 at p2
      cases q2
      case ok d h5 =>
        cases d
        case bl b =>
          intro m5 H5 g5 R5
          replace p2 := PostE.grow p2 g5
          cases b
          case false => exact iteF ⟨m5, h5, gg.trans g5, R5, p2⟩
          case true =>
            refine iteT ⟨m5, s4, h5, R5, rs4.grow g5, ?_⟩
            try dsimp only at p2
            generalize fk s4 h5 = q3 at p2
            cases q3
            case ok y h6 =>
              intro m6 H6 y6 g6 R6 repy
              replace p2 := PostE.grow p2 g6
              try dsimp only at p2
              refine ⟨m6, s4, h6, R6, (rs4.grow g5).grow g6, ?_⟩
              generalize fe s4 h6 = q4 at p2
              cases q4
              case ok dv h7 =>
                intro m7 H7 v7 g7 R7 repv
                replace p2 := PostE.grow p2 g7
                try dsimp only at p2
                split at p2
                case h_2 => exact False.elim p2
                rename_i k acc hk hn
                split at p2
                case isFalse => exact False.elim p2
                rename_i hz
                have gf := gg.trans (g5.trans (g6.trans g7))
                have hm7 : m7[n]? = some Dn := gf.loc _ _ nN
                have xo := R7.ob _ _ _ hm7 hn
                obtain ⟨kv, q1, q2⟩ := id xo
                have ek := keyD_rep (repy.grow g7) hk
                have g8 : Grow m7 H7 m7 (upd H7 Dn (.dK (putK kv k v7))) := Grow.set xo rfl
                exact ⟨kv, k, ek, q1, by rw [q2.len]; exact Nat.lt_of_lt_of_le hz (big_line (Nat.le_refl _)), m7, _, gf.trans g8, R7.set (o := .dk (putKD acc k dv)) hm7 hn rfl ⟨putK kv k v7, upd_same, ((q2.grow g8).put k (repv.grow g8))⟩, PostE.grow p2 g8⟩
              all_goals exact False.elim p2
            all_goals exact False.elim p2
        all_goals exact False.elim p2
      all_goals exact False.elim p2
    all_goals exact False.elim p2
variable {kx vx tg iter : Expr} {ifs : List Expr} {scope : Scope} {own : List (Str × Nat)} {pos : Pos} {fi : FI} {gt : GT} {ft fk fe : FE} {vs : List Nat} {wk : Bool}
theorem se_dc (hc : X.calm = true) (hN : X.N.Nodup) (hi : SI X W wk tg iter fi) (ok : BlkOk X.N X.env.scope scope own)
    (hg : ∀ (s : Shared) (H : Hp) (C : Addr) (cl : List (Str × Addr)) (fp : List Addr), SG (X.blk s H scope (compEnvC scope cl C X.env) fp) wk tg vs gt) (ht : ∀ (s : Shared) (H : Hp) (C : Addr) (cl : List (Str × Addr)) (fp : List Addr), STs (X.blk s H scope (compEnvC scope cl C X.env) fp) ifs ft)
    (hk : ∀ (s : Shared) (H : Hp) (C : Addr) (cl : List (Str × Addr)) (fp : List Addr), SE (X.blk s H scope (compEnvC scope cl C X.env) fp) W0 kx fk)
    (he : ∀ (s : Shared) (H : Hp) (C : Addr) (cl : List (Str × Addr)) (fp : List Addr), SE (X.blk s H scope (compEnvC scope cl C X.env) fp) W0 vx fe) (hs : ∀ x, foldedSetIterable iter X.env x = pure x := by intro _; rfl) (hv : vs.all (fun i => (own.map (·.2)).contains i) = true := by rfl) :
    SE X W (.DictComp kx vx [⟨tg, iter, ifs, 0⟩] scope pos) (eDc fi gt ft fk fe (own.map (·.2))) :=
  PE.imp (pe_dc (g := tSG X.K X.mg wk vs gt) (tt := tST X.K X.mg W0 ft) (tk := tS X.K X.mg W0 fk) (tv := tS X.K X.mg W0 fe) hc hN hi ok hg ht hk he hs) fun σ H Q h => dc_ok (wi := tSI X.K X.mg W wk fi) (mem_all hv) h
variable {y : Str} {py spos : Pos} {i : Nat}
/-- y = {..} on one row -/
theorem ps_setDc {wi : TI} {g : TG} {tt : TT} {tk tv : TE} (hc : X.calm = true) (hN : X.N.Nodup) (hy : X.N[i]? = some y) (hyl : X.env.scope.names.lookup y = some .local)
    (sw : swapsWith (.DictComp kx vx [⟨tg, iter, ifs, 0⟩] scope pos) (some (.Name y py)) spos.line X.env = pure true) (a1 : PI X tg iter wi) (ok : BlkOk X.N X.env.scope scope own)
    (a2 : ∀ (s : Shared) (H : Hp) (C : Addr) (cl : List (Str × Addr)) (fp : List Addr), PG (X.blk s H scope (compEnvC scope cl C X.env) fp) tg g)
    (a3 : ∀ (s : Shared) (H : Hp) (C : Addr) (cl : List (Str × Addr)) (fp : List Addr), PTs (X.blk s H scope (compEnvC scope cl C X.env) fp) ifs tt)
    (a4 : ∀ (s : Shared) (H : Hp) (C : Addr) (cl : List (Str × Addr)) (fp : List Addr), PE (X.blk s H scope (compEnvC scope cl C X.env) fp) kx tk)
    (a5 : ∀ (s : Shared) (H : Hp) (C : Addr) (cl : List (Str × Addr)) (fp : List Addr), PE (X.blk s H scope (compEnvC scope cl C X.env) fp) vx tv)
    (a6 : ∀ x, foldedSetIterable iter X.env x = pure x := by intro _; rfl) :
    PS X (.Assign [.Name y py] (.DictComp kx vx [⟨tg, iter, ifs, 0⟩] scope pos) spos) (tAsg (tDc wi g tt tk tv (own.map (·.2))) (gName i)) := by
  constructor
  intro pins s σ H D I q0
  rw [exec_Assign_Name_used _ _ _ _ sw]
  apply wpAny_bind
  apply wpAny_standAt
  apply wpAny_bind
  show wpAny _ X.A (do let _ ← comprehension (.DictComp kx vx [⟨tg, iter, ifs, 0⟩] scope pos) scope X.env (firstIterPos [⟨tg, iter, ifs, 0⟩] pos) newDict false (eval iter X.env) (some (assign (.Name y py) X.env))) _ _ s
  have q1 : tDc wi g tt tk tv (own.map (·.2)) σ H (fun x H1 => gName i x σ H1 D.nx) := q0
  refine wpAny_bind (thn (dc_core (Qf := fun _ s' => SP X pins D .next s') hc hN I a1 ok a2 a3 a4 a5 a6 q1 fun L C s' m H' J q hn f => ?_) fun _ s' hq => wpAny_pure (wpAny_pure hq))
  show wpAny _ _ (assign (.Name y py) X.env (.ref L)) _ _ _
  refine wpAny_assign_Name (store_ok2 (v := V.ref L) J hN hy (.inl hyl) rfl (fun s2 J2 ⟨a, sb, ha⟩ => ?_) (.inr hyl))
  obtain ⟨f0, f1, f2, f3, f4, f5⟩ := f
  have hne : C ≠ a := by
    cases ha with
    | inl z => exact fun e => f1 (e.trans z)
    | inr z => exact fun e => f4 y a z e.symm
  exact ⟨m, hn.sameBut sb hne, fun h3 sb3 => ⟨_, H', J2.turned (t' := s2.toks) (fun b o hb e => (sb3.2 b hb).trans e) f0 f1 f3 f4 f5, q⟩⟩
theorem ss_setDc (hc : X.calm = true) (hN : X.N.Nodup) (hy : X.N[i]? = some y) (hyl : X.env.scope.names.lookup y = some .local)
    (sw : swapsWith (.DictComp kx vx [⟨tg, iter, ifs, 0⟩] scope pos) (some (.Name y py)) spos.line X.env = pure true) (hi : SI X W wk tg iter fi) (ok : BlkOk X.N X.env.scope scope own)
    (hg : ∀ (s : Shared) (H : Hp) (C : Addr) (cl : List (Str × Addr)) (fp : List Addr), SG (X.blk s H scope (compEnvC scope cl C X.env) fp) wk tg vs gt) (ht : ∀ (s : Shared) (H : Hp) (C : Addr) (cl : List (Str × Addr)) (fp : List Addr), STs (X.blk s H scope (compEnvC scope cl C X.env) fp) ifs ft)
    (hk : ∀ (s : Shared) (H : Hp) (C : Addr) (cl : List (Str × Addr)) (fp : List Addr), SE (X.blk s H scope (compEnvC scope cl C X.env) fp) W0 kx fk)
    (he : ∀ (s : Shared) (H : Hp) (C : Addr) (cl : List (Str × Addr)) (fp : List Addr), SE (X.blk s H scope (compEnvC scope cl C X.env) fp) W0 vx fe) (hs : ∀ x, foldedSetIterable iter X.env x = pure x := by intro _; rfl) (hv : vs.all (fun i => (own.map (·.2)).contains i) = true := by rfl) :
    SS X W (.Assign [.Name y py] (.DictComp kx vx [⟨tg, iter, ifs, 0⟩] scope pos) spos) (gSet i (eDc fi gt ft fk fe (own.map (·.2)))) := by
  refine PS.imp (ps_setDc (g := tSG X.K X.mg wk vs gt) (tt := tST X.K X.mg W0 ft) (tk := tS X.K X.mg W0 fk) (tv := tS X.K X.mg W0 fe) hc hN hy hyl sw hi ok hg ht hk he hs) fun D σ H h => ?_
  obtain ⟨m, s, h, R0, rs, p⟩ := h
  refine dc_ok (X := X) (W := W) (wi := tSI X.K X.mg W wk fi) (mem_all hv) ⟨m, s, h, R0, rs, PostE.mono (PostS.ofE rs p) ?_⟩
  rintro x H1 ⟨m1, dx, h1, g1, R1, rx, p1⟩
  exact p1 m1 H1 _ (Grow.refl _ _) R1 ((rs.grow g1).set i rx)
end
end Sh

set_option Elab.async false
set_option linter.all false
set_option maxRecDepth 100000
set_option maxHeartbeats 4000000
/-! sorted(t), t a tuple of ints; sorted(l) of a list of ints -/
namespace Sh
open PySem L2 PyProof.Rows
section
variable {prog : Program} {w : World} {A : Around} {E : Value → Shared → Prop} {s : Shared}
/-- what a tuple gives, item by item -/
theorem tup_collect {l : Addr} {us : List Value} {Q : List Value → Shared → Prop} (ht : IsTup s.heap l us.toArray) (hz : us.length ≤ sizeLine)
    (q : Q us { s with heap := (s.heap.push (seqObj "list" #[] 0)).update s.heap.objs.size (Obj.mapSeq (· ++ us.toArray)) }) : wpAny (model prog w) A (collect (.ref l)) Q E s := by
  obtain ⟨o, e1, e2, n, e3⟩ := ht
  have e1' : (s.heap.push (seqObj "list" #[] 0)).get? l = some o := Heap.get?_push_of_some _ e1
  have new0 : (s.heap.push (seqObj "list" #[] 0)).get? s.heap.objs.size = some (seqObj "list" #[] 0) := Heap.get?_push_size _ rfl
  unfold collect
  apply wpAny_bind
  apply wpAny_runValue
  apply codeAny_builtin entry_proto_collect'
  show wpAny _ _ (do again (.builtin "list.__iadd__" ⟨[← newList [], .ref l], []⟩)) _ _ s
  apply wpAny_bind
  refine wpAny_newList (wpAny_pure ?_) (Nat.zero_le _)
  refine ⟨Code.quiet_builtin _ (by decide +kernel), codeAny_builtin entry_list_iadd' ?_⟩
  show wpAny _ _ (Builtin.List.listExtendWith (.ref s.heap.objs.size) (.ref l) (.ref s.heap.objs.size)) _ _ { s with heap := s.heap.push (seqObj "list" #[] 0) }
  unfold Builtin.List.listExtendWith
  apply wpAny_bind
  refine wpAny_typeOf (T := "tuple") ⟨o, e1', e2⟩ ?_
  have tt : (Value.type "tuple" == Value.type "tuple") = true := by rfl
  rw [if_pos (by rw [tt, Bool.or_true])]
  apply wpAny_bind
  refine listItems_at e1' e3 ?_
  apply wpAny_bind
  refine listItems_at new0 rfl ?_
  rw [if_neg (by simp)]
  apply wpAny_bind
  refine listUpdate_at new0 rfl ?_ (Nat.zero_le _) ?_
  · apply wpAny_pure
    show wpAny (model prog w) A (do
        let o ← load s.heap.objs.size
        match o.data with
        | .seq xs _ => pure xs.toList
        | _ => unsupported "internal:collect") Q E { s with heap := (s.heap.push (seqObj "list" #[] 0)).update s.heap.objs.size (Obj.mapSeq (· ++ us.toArray)) }
    apply wpAny_bind
    refine wpAny_load (get?_update_seq new0 _) ?_
    show wpAny _ _ (pure ((#[] : Array Value) ++ us.toArray).toList) Q E _
    have ee : ((#[] : Array Value) ++ us.toArray).toList = us := by simp
    rw [ee]
    exact wpAny_pure q
  · show (#[] ++ us.toArray).size ≤ sizeLine + 1
    simp only [Array.size_append, List.size_toArray, List.length_nil]
    omega
open SrtO Srt in
theorem tup_sorted {l : Addr} {us : List Value} {ns : List Int} {Q : Value → Shared → Prop} (hI : IntsAre us ns) (ht : IsTup s.heap l us.toArray) (hz : us.length ≤ sizeLine)
    (q : ∀ out : List Value, Srtd ltIv out → Stb ltIv out us → Q (.ref (s.heap.objs.size + 1)) { s with heap := sortedAll s.heap us out.toArray }) : wpAny (model prog w) A (call (.builtin "sorted") [.ref l]) Q E s := by
  apply Calls.call_function_entry kind_sorted plain_sorted entry_sorted (args_sorted1 _)
  unfold Builtin.«sorted»
  apply wpAny_bind (m := checkCount "sorted" 1 1 _)
  apply wpAny_pure
  apply wpAny_bind
  refine tup_collect ht hz ?_
  apply wpAny_bind
  refine wpAny_newList ?_ hz
  generalize hB : (s.heap.push (seqObj "list" #[] 0)).update s.heap.objs.size (Obj.mapSeq (· ++ us.toArray)) = B
  have sB : B.objs.size = s.heap.objs.size + 1 := by rw [← hB, Heap.size_update, size_push']
  have eL : (B.push (seqObj "list" us.toArray 0)).get? (s.heap.objs.size + 1) = some (seqObj "list" us.toArray 0) := by
    rw [← sB]
    exact Heap.get?_push_size _ rfl
  show wpAny _ _ _ _ _ { s with heap := B.push (seqObj "list" us.toArray 0) }
  rw [sB]
  apply wpAny_bind
  apply wpAny_holding
  refine wpAny_call_entry slot_list_sort ⟨_, eL, rfl⟩ entry_list_sort (list_sort_ord swo_int eL hz (fun h2 => ints_sortable hI h2) fun out hs hb => ⟨_, rfl, wpAny_pure ⟨_, rfl, ?_⟩⟩) (args_list_sort _)
  have := q out hs hb
  unfold sortedAll at this
  rw [hB] at this
  exact this
end
theorem perm_asc : ∀ {l r : List Int}, l.Perm r → l.Pairwise (· ≤ ·) → r.Pairwise (· ≤ ·) → l = r
  | [], r, p, _, _ => (List.nil_perm.mp p).symm
  | a :: l, [], p, _, _ => absurd (List.perm_nil.mp p) (by simp)
  | a :: l, b :: r, p, h1, h2 => by
    have hab : a = b := by
      have m1 : a ∈ b :: r := p.mem_iff.mp List.mem_cons_self
      have m2 : b ∈ a :: l := p.mem_iff.mpr List.mem_cons_self
      rw [List.pairwise_cons] at h1 h2
      rcases List.mem_cons.mp m1 with z | z
      · exact z
      · rcases List.mem_cons.mp m2 with y | y
        · exact y.symm
        · have q1 := h1.1 b y
          have q2 := h2.1 a z
          omega
    subst hab
    rw [perm_asc (List.Perm.cons_inv p) (List.pairwise_cons.mp h1).2 (List.pairwise_cons.mp h2).2]
/-- the ints in their order -/
def ascI (l : List Int) : List Int := l.mergeSort fun a b => decide (a ≤ b)
theorem ascI_perm (l : List Int) : (ascI l).Perm l := List.mergeSort_perm _ _
theorem ascI_asc (l : List Int) : (ascI l).Pairwise (· ≤ ·) := by
  have := List.pairwise_mergeSort (le := fun a b : Int => decide (a ≤ b)) (by intro a b c; simp; omega) (by intro a b; simp; omega) l
  exact this.imp fun h => by simpa using h
def bSortI (ds : List D) (h : Hm) : RD := match ds with
  | [d] => match items h d with
    | some xs => match intsD xs with
      | some l => .ok (.ref h.length) (h ++ [.lst ((ascI l).map D.int)])
      | none => .bad
    | none => .bad
  | _ => .bad
section
variable {X : Cx}
def rSortTI (K : PySem.W.Frag) : List V → Hp → VK → Prop := fun vs H Q => ∃ (a : Addr) (ns : List Int), vs = [V.ref a] ∧ (SqL K H a (ns.map V.int) ∨ SqT K H a (ns.map V.int)) ∧
  ∀ p : Addr, H p = none → Q (.ref p) (upd H p (.lst ((ascI ns).map V.int)))
theorem cr_sortTI : CallR X (.builtin "sorted") (rSortTI X.K) := by
  intro pins s σ H vs us Q I r h
  obtain ⟨a, ns, rfl, hs, q⟩ := h
  rcases hs with hs | hs
  · refine cr_sortedI pins s σ H _ us Q I r ⟨a, ns, rfl, hs, fun ns' p e1 e2 e3 => ?_⟩
    rw [perm_asc (e1.trans (ascI_perm ns).symm) e2 (ascI_asc ns)]
    exact q p e3
  · obtain ⟨its, rv, ht, hz⟩ := I.tuple hs
    rw [Vals.ref1 r]
    have hi := rv.ints
    refine tup_sorted hi ht (by rw [← rv.length]; exact hz) fun out h1 h2 => ?_
    obtain ⟨k1, k2, k3⟩ := SrtO.ints_out hi h1 h2
    have ee := perm_asc (k2.trans (ascI_perm ns).symm) k3 (ascI_asc ns)
    obtain ⟨ep, he'⟩ := PyProof.Rows.sortedAll_at s.heap its out.toArray
    have fresh : H (s.heap.objs.size + 1) = none := I.hok.fresh (Nat.le_succ _)
    have hlen : ((out.map SrtO.iv).map V.int).length ≤ sizeLine := by
      rw [List.length_map] at hz ⊢
      rw [k2.length_eq]
      exact hz
    have J := I.laid (t' := s.toks) (a := s.heap.objs.size + 1) (o := .lst ((out.map SrtO.iv).map V.int)) (fun _ _ => PyProof.Rows.sortedAll_old) (Nat.le_succ _) ⟨hlen, out, ep, vals_of_ints k1, he'⟩
    refine ⟨.ref _, _, J, rfl, ?_⟩
    rw [ee]
    exact q _ fresh
theorem rep_ints {K : PySem.W.Frag} {m : List Addr} {H : Hp} : ∀ l : List Int, RepL K m H (l.map V.int) (l.map D.int)
  | [] => .nil
  | a :: l => .cons (.int a) (rep_ints l)
theorem cs_sortI : CallS X (rSortTI X.K) bSortI := by
  intro W m H h vs ds Q r rv p
  unfold bSortI at p
  split at p
  case h_2 => exact False.elim p
  split at p
  case h_2 => exact False.elim p
  rename_i xs hx
  split at p
  case h_2 => exact False.elim p
  rename_i l hl
  cases rv with
  | cons r1 r2 =>
    cases r2
    obtain ⟨a, ws, rfl, h1, l1⟩ := items_sq r r1 hx
    have ew := intsD_rep l1 hl
    subst ew
    exact ⟨a, l, rfl, h1, PostE.lst p r (rep_ints _)⟩
end
end Sh

set_option Elab.async false
set_option linter.all false
set_option maxRecDepth 100000
set_option maxHeartbeats 4000000
/-! d.get(x), x an int, a text or None -/
namespace Sh
open PySem L2 PyProof.Rows
section
variable {X : Cx} {W : WX} {pins : List (Addr × Obj)} {σ : L2.St} {H : Hp} {s : Shared} {a : Addr} {kvs : List (Key × V)} {A : Around} {E : Value → Shared → Prop}
theorem get_none {Q : Value → Shared → Prop} (I : Inv X pins σ H s) (e : Rd H a (.dK kvs)) (q : ∀ s', Inv X pins σ H s' → Q .none s') : wpAny (model X.prog X.w) A (call (.builtin "dict.get") [.ref a, .none]) Q E s := by
  obtain ⟨_, hd, vs, _, dd⟩ := dk_rd I.hok e
  obtain ⟨f, hm, hf⟩ := none_map dd
  have ik : (noneKind X.prog X.w).is none .none = true := rfl
  have mm := meets_dict_get (noneKind X.prog X.w) a ik hd
  refine call_meetsIn PySem.F.slot_dict_get dd.typeIs PySem.F.entry_dict_get (PySem.F.args_dict_get_2 _ _) mm ⟨f, hm, ?_⟩
  rw [hf]
  exact q _ (I.tok _)
def tDGet1N (td ty : TE) : TE := fun σ H Q => td σ H fun x H1 => ∃ a, x = .ref a ∧ IsD H1 a ∧ ty σ H1 fun y H2 => (∃ o, DGet H2 a y o ∧ Q (o.getD .non) H2) ∨ ∃ kvs, y = .non ∧ Rd H2 a (.dK kvs) ∧ Q .non H2
variable {o e : Expr} {fo fi : FE} {apos cpos : Pos} {td ty : TE}
theorem pe_dget1N (hu : X.A.units + 1 < cLine) (ho : PE X o td) (he : PE X e ty) (m : M1 X o "get" apos e cpos) : PE X (.Call (.Attribute o "get" apos) [e] [] cpos) (tDGet1N td ty) := by
  constructor
  intro pins s σ H Q I q0
  refine wpAny_Call_method m.base m.few m.line PySem.F.plainAttrs_dict PySem.F.slot_dict_get PySem.F.type_dict_get (thn (ho.run pins s σ H _ I q0) ?_)
  rintro u s1 ⟨x, H1, I1, rx, a, rfl, d, q1⟩
  obtain rfl : u = Value.ref a := rx
  have da := isD_at I1 d
  refine ⟨da.1, da.2.1, ?_⟩
  rw [m.trees]
  apply Calls.callWith_builtin rfl
  apply Calls.evalArgs_plain
  refine Calls.spliced_cons (thn (he.run pins s1 σ H1 _ I1 q1) ?_)
  rintro iv s2 ⟨y, H2, I2, ry, q2⟩
  apply Calls.spliced_nil
  rcases q2 with ⟨ov, g, q2⟩ | ⟨kvs, rfl, g, q2⟩
  · exact d_get1 hu I2 g ry fun w' s3 I3 rw' => ⟨_, H2, I3, rw', q2⟩
  · obtain rfl : iv = Value.none := ry
    exact get_none I2 g fun s3 I3 => ⟨.non, H2, I3, rfl, q2⟩
def dHasN (d y : D) (h : Hm) : Option (Option D) := match y with
  | .non => if isDk d h = true then some none else none
  | _ => dHas d y h
def eDget1N (fo fi : FE) : FE := fun s h => (fo s h).bind fun d h1 => if isDk d h1 = true then (fi s h1).bind fun y h2 => match dHasN d y h2 with
  | some r => .ok (r.getD .non) h2
  | none => .bad
  else .bad
theorem isDk_rd {m : List Addr} {H : Hp} {h : Hm} {x : V} {d : D} (R0 : R X.K X.mg m H h) (rx : Rep X.K m H x d) (e : isDk d h = true) : ∃ a kv, x = .ref a ∧ Rd H a (.dK kv) := by
  unfold isDk at e
  split at e
  case h_2 => cases e
  split at e
  case h_2 => cases e
  rename_i n _ kvs hn
  obtain ⟨a, rfl, hm⟩ := rx.ref_inv
  obtain ⟨kv, q1, q2⟩ := R0.ob _ _ _ hm hn
  exact ⟨a, kv, rfl, .inl q1⟩
theorem se_dget1N {k : Nat} (hr : Room k X.A) (ho : SE X W o fo) (he : SE X W e fi) (m : M1 X o "get" apos e cpos) : SE X W (.Call (.Attribute o "get" apos) [e] [] cpos) (eDget1N fo fi) := by
  have hu := hr.units
  refine PE.imp (pe_dget1N (by omega) ho he m) fun σ H Q h => ?_
  obtain ⟨m, s, h, R0, rs, p⟩ := h
  refine ⟨m, s, h, R0, rs, PostE.mono (PostE.bind p) ?_⟩
  rintro x H1 ⟨m1, dx, h1, g1, R1, rx, p1⟩
  split at p1
  case isFalse => exact False.elim p1
  rename_i hd
  obtain ⟨a, rfl, hD⟩ := isDk_ok R1 rx hd
  refine ⟨a, rfl, hD, m1, s, h1, R1, rs.grow g1, PostE.mono (PostE.bind p1) ?_⟩
  rintro y H2 ⟨m2, dy, h2, g2, R2, ry, p2⟩
  split at p2
  case h_2 => exact False.elim p2
  rename_i r hr
  unfold dHasN at hr
  split at hr
  · split at hr
    case isFalse => cases hr
    rename_i hd2
    cases hr
    obtain ⟨a2, kv, e2, g⟩ := isDk_rd R2 (rx.grow g2) hd2
    cases e2
    cases ry
    exact .inr ⟨kv, rfl, g, p2.val R2 .non⟩
  · obtain ⟨a', o, e, g, q⟩ := dHas_ok R2 (rx.grow g2) ry hr
    cases e
    refine .inl ⟨o, g, ?_⟩
    rcases q with ⟨rfl, rfl⟩ | ⟨v, z, rfl, rfl, rv⟩
    · exact p2.val R2 .non
    · exact p2.val R2 rv
end
/-- the class object, for k_is -/
theorem oxFact {K : PySem.W.Frag} {C N : Addr} {nm q : Str} {bs bm sub : List Value} {sn : List Str} {ab : Bool} {col : Option Bool} {dd : Option Addr} {k0 k1 k2 k3 k5 : Option Value}
    (l : K.lookup C = some (excClassObj nm q C N bs bm true sn sub ab col dd k0 k1 k2 k3 k5 "ValueError.__new__")) (m : PySem.HandSPX.refsVE bm = true) :
    ∃ nm q N bs bm sn sub ab col dd k0 k1 k2 k3 k5, K.lookup C = some (excClassObj nm q C N bs bm true sn sub ab col dd k0 k1 k2 k3 k5 "ValueError.__new__") ∧ PySem.HandSPX.refsVE bm = true :=
  ⟨_, _, _, _, _, _, _, _, _, _, _, _, _, _, _, l, m⟩
end Sh

set_option Elab.async false
set_option linter.all false
set_option maxRecDepth 100000
set_option maxHeartbeats 4000000
namespace Sh.k09
open PySem L2 PyProof.Rows Sh
def top (i : Nat) : Stmt := PySem.Challenge.pw_spentblocks_k09_renamed_by_hand.main.body.getD i (.Pass ⟨0, 0, 0, 0⟩)
abbrev s__law_cell : Stmt := top 31
abbrev s__law_mixed : Stmt := top 32
abbrev s__law_digits : Stmt := top 33
abbrev s__law_left : Stmt := top 35
abbrev s__law_pages : Stmt := top 36
abbrev s__law_block : Stmt := top 37
abbrev s__law_drawn : Stmt := top 38
abbrev s__law_small_left : Stmt := top 42
abbrev s__law_small : Stmt := top 43
abbrev s__law_any_stand : Stmt := top 44
abbrev s_is_whole : Stmt := top 16
abbrev s_is_left : Stmt := top 22
abbrev s_is_key : Stmt := top 18
abbrev s_is_block : Stmt := top 21
abbrev s_are_blocks : Stmt := top 20
abbrev s_wrong_part : Stmt := top 19
abbrev s_Stand_init : Stmt := inClass (top 25) 0
abbrev s__law_stand : Stmt := top 39
abbrev s__law_order : Stmt := top 45
abbrev s_Stand_shape : Stmt := inClass (top 25) 7
abbrev s_Stand_blocks : Stmt := inClass (top 25) 2
abbrev s_is_count : Stmt := top 17
abbrev s_is_order : Stmt := top 29
abbrev s_Stand_many : Stmt := inClass (top 25) 1
abbrev s_Stand_fails : Stmt := inClass (top 25) 3
abbrev s_Stand_cuts : Stmt := inClass (top 25) 4
abbrev s_Stand_asked : Stmt := inClass (top 25) 5
abbrev s_renamed : Stmt := top 28
abbrev s__law_told : Stmt := top 49
abbrev s__law_renamed : Stmt := top 46
abbrev s__law_same : Stmt := top 34
abbrev s__law_odd : Stmt := top 40
abbrev s__law_order_bent : Stmt := top 47
abbrev s__law_is_int : Stmt := top 41
abbrev s__law_is_order : Stmt := top 48
abbrev s__law_due : Stmt := top 50
abbrev s_law : Stmt := top 51
abbrev s_NoNames_init : Stmt := inClass (top 6) 0
structure Txt (K : PySem.W.Frag) (mg : Str → Option Value) where
  b_all : mg "all" = none
  b_any : mg "any" = none
  b_bool : mg "bool" = none
  b_enumerate : mg "enumerate" = none
  b_int : mg "int" = none
  b_isinstance : mg "isinstance" = none
  b_len : mg "len" = none
  b_list : mg "list" = none
  b_range : mg "range" = none
  b_set : mg "set" = none
  b_sorted : mg "sorted" = none
  b_str : mg "str" = none
  b_tuple : mg "tuple" = none
  c_MOST_BLOCKS : ∃ t, mg "MOST_BLOCKS" = some (.int 9 t)
  c_MOST_KEYS : ∃ t, mg "MOST_KEYS" = some (.int 9 t)
  c_MOST_LEFT : ∃ t, mg "MOST_LEFT" = some (.int 99 t)
  c_MOST_LOSSES : ∃ t, mg "MOST_LOSSES" = some (.int 9 t)
  c_MOST_PAGES : ∃ t, mg "MOST_PAGES" = some (.int 6 t)
  k_Stand : ClAt K mg "Stand"
  na_Stand__shape : NoAttr K k_Stand.C "_shape"
  q_NoNames : FldAt K mg "NoNames" "SpentError" "part" "NoNames.__init__" s_NoNames_init ["self", "part"]
  x_NoNames_NoNames : PySem.W.exmOne K (.ref q_NoNames.C) (.ref q_NoNames.C) = some true
  f__law_cell : FnAt K mg "_law_cell" "_law_cell" s__law_cell ["script", "k"]
  f__law_mixed : FnAt K mg "_law_mixed" "_law_mixed" s__law_mixed ["cell", "k"]
  f__law_digits : FnAt K mg "_law_digits" "_law_digits" s__law_digits ["cell", "sizes"]
  f__law_left : FnAt K mg "_law_left" "_law_left" s__law_left ["digit"]
  f__law_pages : FnAt K mg "_law_pages" "_law_pages" s__law_pages ["digits", "rest", "pages", "written"]
  f__law_block : FnAt K mg "_law_block" "_law_block" s__law_block ["cell", "rest", "pages"]
  f__law_drawn : FnAt K mg "_law_drawn" "_law_drawn" s__law_drawn ["script", "at"]
  f__law_small_left : FnAt K mg "_law_small_left" "_law_small_left" s__law_small_left ["digit"]
  f__law_small : FnAt K mg "_law_small" "_law_small" s__law_small ["script", "at", "most_fails", "most_cuts"]
  f__law_any_stand : FnAt K mg "_law_any_stand" "_law_any_stand" s__law_any_stand ["script", "at"]
  f_is_whole : FnAt K mg "is_whole" "is_whole" s_is_whole ["thing", "low", "high"]
  f_is_left : FnAt K mg "is_left" "is_left" s_is_left ["left"]
  f_is_key : FnAt K mg "is_key" "is_key" s_is_key ["thing", "keys"]
  f_is_block : FnAt K mg "is_block" "is_block" s_is_block ["block", "keys"]
  f_are_blocks : FnAt K mg "are_blocks" "are_blocks" s_are_blocks ["blocks", "keys"]
  f_wrong_part : FnAt K mg "wrong_part" "wrong_part" s_wrong_part ["keys", "blocks", "fails", "cuts", "asked"]
  f_Stand_init : InAt K k_Stand.C "Stand.__init__" s_Stand_init ["self", "keys", "blocks", "fails", "cuts", "asked"] 4 ["asked"]
  f__law_stand : FnAt K mg "_law_stand" "_law_stand" s__law_stand ["shape"]
  f__law_order : FnAt K mg "_law_order" "_law_order" s__law_order ["cell", "size"]
  f_Stand_shape : MeAt K k_Stand.C "shape" "Stand.shape" s_Stand_shape ["self"]
  f_Stand_blocks : MeAt K k_Stand.C "blocks" "Stand.blocks" s_Stand_blocks ["self"]
  f_is_count : FnAt K mg "is_count" "is_count" s_is_count ["thing"]
  f_is_order : FnAt K mg "is_order" "is_order" s_is_order ["order", "many"]
  f_Stand_many : MeAt K k_Stand.C "many" "Stand.many" s_Stand_many ["self"]
  f_Stand_fails : MeAt K k_Stand.C "fails" "Stand.fails" s_Stand_fails ["self"]
  f_Stand_cuts : MeAt K k_Stand.C "cuts" "Stand.cuts" s_Stand_cuts ["self"]
  f_Stand_asked : MeAt K k_Stand.C "asked" "Stand.asked" s_Stand_asked ["self"]
  f_renamed : FnAt K mg "renamed" "renamed" s_renamed ["stand", "blocks", "keys"]
  f__law_told : FnAt K mg "_law_told" "_law_told" s__law_told ["stand", "blocks", "keys"]
  f__law_renamed : FnAt K mg "_law_renamed" "_law_renamed" s__law_renamed ["shape", "blocks", "keys"]
  f__law_same : FnAt K mg "_law_same" "_law_same" s__law_same ["got", "due"]
  f__law_odd : FnAt K mg "_law_odd" "_law_odd" s__law_odd ["digit"]
  f__law_order_bent : FnAt K mg "_law_order_bent" "_law_order_bent" s__law_order_bent ["order", "cell"]
  f__law_is_int : FnAt K mg "_law_is_int" "_law_is_int" s__law_is_int ["thing", "low", "high"]
  f__law_is_order : FnAt K mg "_law_is_order" "_law_is_order" s__law_is_order ["thing", "size"]
  f__law_due : FnAt K mg "_law_due" "_law_due" s__law_due ["shape", "blocks", "keys"]
  f_law : FnAt K mg "law" "law" s_law ["script"]
section
variable {P : Program} {w : World} {K : PySem.W.Frag} {mg : Str → Option Value} {base : Heap}
theorem sc_NoNames_init : FnScope ["self", "part"] ["self", "part"] (defScope s_NoNames_init) := ⟨rfl, rfl, rfl, by decide +kernel, rfl, by decide +kernel, by decide +kernel⟩
theorem ok_NoNames_init (T : Txt K mg) : FnOk P w K mg base (L2.CX P w) 1 T.q_NoNames.fI T.q_NoNames.fd ["self", "part"] (spF1 K "part") :=
  okF1 rfl T.q_NoNames.fn sc_NoNames_init fun cdv A outer s H E hr => pss_cons (ps_expr (pe_binit rfl T.q_NoNames.g0 T.q_NoNames.r0 T.q_NoNames.v0 (pa_cons (pv 0) (pa_cons pe_str pa_nil)))) (pss_one (ps_ost (pv 0) (pv 1)))
theorem sc__law_cell : FnScope ["script", "k", "first"] ["script", "k"] (defScope s__law_cell) := ⟨rfl, rfl, rfl, by decide +kernel, rfl, by decide +kernel, by decide +kernel⟩
def g__law_cell : FS := (gSeq (gIf (eBin (dCmp fun i j => decide (i < j)) (eVar 1) (eArgs bLen [(eVar 0)])) (gRet (eArgs bInt [(eBin dIx (eVar 0) (eVar 1))])) gNext)
    (gSeq (gSet 2 (eC (.int 0)))
    (gSeq (gIf (eBin (dCmp fun i j => decide (j < i)) (eArgs bLen [(eVar 0)]) (eC (.int 0))) (gSet 2 (eArgs bInt [(eBin dIx (eVar 0) (eC (.int 0)))])) gNext)
    (gRet (eBin dMod (eArgs bInt [(eBin dMul (eBin dAdd (eVar 2) (eBin dMul (eC (.int 7919)) (eVar 1))) (eC (.int 48271)))]) (eC (.int 2147483647)))))))
def m__law_cell : FF := runB 3 g__law_cell
theorem ok__law_cell (T : Txt K mg) : OkF P w K mg base 1 T.f__law_cell.f T.f__law_cell.fd ["script", "k"] m__law_cell := by
  refine @okS P w K mg base "_law_cell" "_law_cell" s__law_cell T.f__law_cell.f T.f__law_cell.fd ["script", "k", "first"] ["script", "k"]  0 g__law_cell T.f__law_cell.fn sc__law_cell ?_
  intro cdv A outer s H E hr tk PO
  unfold g__law_cell
  refine sss_cons ?_ ?_
  · refine ss_if ?_ ?_ ?_
    · refine st_cmp op_lt os_cmp ?_ ?_ (nomark _)
      · exact se_var 1
      · refine se_callB (call_len) (cs_len) rfl T.b_len rfl ?_
        refine sa_cons ?_ ?_
        · exact se_var 0
        · exact sa_nil
    · refine sss_one ?_
      refine ss_ret ?_
      refine se_callTy (call_int1) (cs_int) rfl T.b_int rfl ?_
      refine sa_cons ?_ ?_
      · refine se_ix ?_ ?_
        · exact se_var 0
        · exact se_var 1
      · exact sa_nil
    · exact sss_nil
  · refine sss_cons ?_ ?_
    · refine ss_set sc__law_cell.nd rfl (by first | exact Or.inl rfl | exact Or.inr rfl) ?_
      exact se_int
    · refine sss_cons ?_ ?_
      · refine ss_if ?_ ?_ ?_
        · refine st_cmp op_gt os_cmp ?_ ?_ (nomark _)
          · refine se_callB (call_len) (cs_len) rfl T.b_len rfl ?_
            refine sa_cons ?_ ?_
            · exact se_var 0
            · exact sa_nil
          · exact se_int
        · refine sss_one ?_
          refine ss_set sc__law_cell.nd rfl (by first | exact Or.inl rfl | exact Or.inr rfl) ?_
          refine se_callTy (call_int1) (cs_int) rfl T.b_int rfl ?_
          refine sa_cons ?_ ?_
          · refine se_ix ?_ ?_
            · exact se_var 0
            · exact se_int
          · exact sa_nil
        · exact sss_nil
      · refine sss_one ?_
        refine ss_ret ?_
        refine se_op op_mod os_mod ?_ ?_
        · refine se_callTy (call_int1) (cs_int) rfl T.b_int rfl ?_
          refine sa_cons ?_ ?_
          · refine se_op op_mul2 os_mul ?_ ?_
            · refine se_op op_add4 os_add ?_ ?_
              · exact se_var 2
              · refine se_op op_mul2 os_mul ?_ ?_
                · exact se_int
                · exact se_var 1
            · exact se_int
          · exact sa_nil
        · exact se_int

theorem sc__law_mixed : FnScope ["cell", "k", "number"] ["cell", "k"] (defScope s__law_mixed) := ⟨rfl, rfl, rfl, by decide +kernel, rfl, by decide +kernel, by decide +kernel⟩
def g__law_mixed : FS := (gSeq (gSet 2 (eBin dMod (eArgs bInt [(eBin dMul (eBin dAdd (eBin dAdd (eVar 0) (eBin dMul (eC (.int 7919)) (eVar 1))) (eC (.int 1))) (eC (.int 48271)))]) (eC (.int 2147483647))))
    (gSeq (gSet 2 (eBin dMod (eArgs bInt [(eBin dMul (eVar 2) (eBin dAdd (eBin dDiv (eVar 2) (eC (.int 1009))) (eC (.int 69621))))]) (eC (.int 2147483647))))
    (gRet (eBin dMod (eArgs bInt [(eBin dMul (eVar 2) (eBin dAdd (eBin dDiv (eVar 2) (eC (.int 2003))) (eC (.int 40692))))]) (eC (.int 2147483399))))))
def m__law_mixed : FF := runB 3 g__law_mixed
theorem ok__law_mixed (T : Txt K mg) : OkF P w K mg base 1 T.f__law_mixed.f T.f__law_mixed.fd ["cell", "k"] m__law_mixed := by
  refine @okS P w K mg base "_law_mixed" "_law_mixed" s__law_mixed T.f__law_mixed.f T.f__law_mixed.fd ["cell", "k", "number"] ["cell", "k"]  0 g__law_mixed T.f__law_mixed.fn sc__law_mixed ?_
  intro cdv A outer s H E hr tk PO
  unfold g__law_mixed
  refine sss_cons ?_ ?_
  · refine ss_set sc__law_mixed.nd rfl (by first | exact Or.inl rfl | exact Or.inr rfl) ?_
    refine se_op op_mod os_mod ?_ ?_
    · refine se_callTy (call_int1) (cs_int) rfl T.b_int rfl ?_
      refine sa_cons ?_ ?_
      · refine se_op op_mul2 os_mul ?_ ?_
        · refine se_op op_add4 os_add ?_ ?_
          · refine se_op op_add4 os_add ?_ ?_
            · exact se_var 0
            · refine se_op op_mul2 os_mul ?_ ?_
              · exact se_int
              · exact se_var 1
          · exact se_int
        · exact se_int
      · exact sa_nil
    · exact se_int
  · refine sss_cons ?_ ?_
    · refine ss_set sc__law_mixed.nd rfl (by first | exact Or.inl rfl | exact Or.inr rfl) ?_
      refine se_op op_mod os_mod ?_ ?_
      · refine se_callTy (call_int1) (cs_int) rfl T.b_int rfl ?_
        refine sa_cons ?_ ?_
        · refine se_op op_mul2 os_mul ?_ ?_
          · exact se_var 2
          · refine se_op op_add4 os_add ?_ ?_
            · refine se_op op_fdivW os_div ?_ ?_
              · exact se_var 2
              · exact se_int
            · exact se_int
        · exact sa_nil
      · exact se_int
    · refine sss_one ?_
      refine ss_ret ?_
      refine se_op op_mod os_mod ?_ ?_
      · refine se_callTy (call_int1) (cs_int) rfl T.b_int rfl ?_
        refine sa_cons ?_ ?_
        · refine se_op op_mul2 os_mul ?_ ?_
          · exact se_var 2
          · refine se_op op_add4 os_add ?_ ?_
            · refine se_op op_fdivW os_div ?_ ?_
              · exact se_var 2
              · exact se_int
            · exact se_int
        · exact sa_nil
      · exact se_int

theorem sc__law_digits : FnScope ["cell", "sizes", "row", "size", "k"] ["cell", "sizes"] (defScope s__law_digits) := ⟨rfl, rfl, rfl, by decide +kernel, rfl, by decide +kernel, by decide +kernel⟩
def g__law_digits : FS := (gSeq (gSet 2 (eLst []))
    (gSeq (gIf (eBin (dCmp fun i j => decide (j ≤ i)) (eVar 0) (eBin dPow (eC (.int 10)) (eC (.int 18)))) (gSeq (gFor (fiSeq (eVar 1)) (tName 3) (gSeq (gDrop (eLm lAppend (eVar 2) [(eBin dMod (eArgs bInt [(eVar 0)]) (eVar 3))]))
    (gSet 0 (eBin dDiv (eVar 0) (eVar 3)))))
    (gRet (eVar 2))) gNext)
    (gSeq (gFor (fiRg [(eArgs bLen [(eVar 1)])]) (tName 4) (gDrop (eLm lAppend (eVar 2) [(eBin dMod (eArgs bInt [(eBin dDiv (eArgs m__law_mixed [(eVar 0), (eVar 4)]) (eC (.int 16)))]) (eBin dIx (eVar 1) (eVar 4)))])))
    (gRet (eVar 2)))))
def m__law_digits : FF := runB 5 g__law_digits
theorem ok__law_digits (T : Txt K mg) : OkF P w K mg base 2 T.f__law_digits.f T.f__law_digits.fd ["cell", "sizes"] m__law_digits := by
  refine @okS P w K mg base "_law_digits" "_law_digits" s__law_digits T.f__law_digits.f T.f__law_digits.fd ["cell", "sizes", "row", "size", "k"] ["cell", "sizes"]  1 g__law_digits T.f__law_digits.fn sc__law_digits ?_
  intro cdv A outer s H E hr tk PO
  unfold g__law_digits
  refine sss_cons ?_ ?_
  · refine ss_set sc__law_digits.nd rfl (by first | exact Or.inl rfl | exact Or.inr rfl) ?_
    refine se_lst ?_
    exact sa_nil
  · refine sss_cons ?_ ?_
    · refine ss_if ?_ ?_ ?_
      · refine st_cmp op_ge os_cmp ?_ ?_ (nomark _)
        · exact se_var 0
        · refine se_op op_pow os_pow ?_ ?_
          · exact se_int
          · exact se_int
      · refine sss_cons ?_ ?_
        · refine ss_for (vs := [3]) (wk := false) PO rfl ?_ ?_ ?_
          · refine si_seq ?_
            exact se_var 1
          · exact sg_name sc__law_digits.nd rfl (by first | exact Or.inl rfl | exact Or.inr rfl)
          · refine sss_cons ?_ ?_
            · refine ss_expr ?_
              refine se_lm PySem.F.plainAttrs_list PySem.F.slot_list_append PySem.F.type_list_append mt_append ls_append ?_ ?_
              · exact se_var 2
              · refine sa_cons ?_ ?_
                · refine se_op op_mod os_mod ?_ ?_
                  · refine se_callTy (call_int1) (cs_int) rfl T.b_int rfl ?_
                    refine sa_cons ?_ ?_
                    · exact se_var 0
                    · exact sa_nil
                  · exact se_var 3
                · exact sa_nil
            · refine sss_one ?_
              refine ss_set sc__law_digits.nd rfl (by first | exact Or.inl rfl | exact Or.inr rfl) ?_
              refine se_op op_fdivW os_div ?_ ?_
              · exact se_var 0
              · exact se_var 3
        · refine sss_one ?_
          refine ss_ret ?_
          exact se_var 2
      · exact sss_nil
    · refine sss_cons ?_ ?_
      · refine ss_for (vs := [4]) (wk := false) PO rfl ?_ ?_ ?_
        · refine si_rg1 rfl T.b_range ?_
          refine sa_cons ?_ ?_
          · refine se_callB (call_len) (cs_len) rfl T.b_len rfl ?_
            refine sa_cons ?_ ?_
            · exact se_var 1
            · exact sa_nil
          · exact sa_nil
        · exact sg_name sc__law_digits.nd rfl (by first | exact Or.inl rfl | exact Or.inr rfl)
        · refine sss_one ?_
          refine ss_expr ?_
          refine se_lm PySem.F.plainAttrs_list PySem.F.slot_list_append PySem.F.type_list_append mt_append ls_append ?_ ?_
          · exact se_var 2
          · refine sa_cons ?_ ?_
            · refine se_op op_mod os_mod ?_ ?_
              · refine se_callTy (call_int1) (cs_int) rfl T.b_int rfl ?_
                refine sa_cons ?_ ?_
                · refine se_op op_fdivW os_div ?_ ?_
                  · refine se_callA T.f__law_mixed (ok__law_mixed T) tk (hr.mono (by decide)) rfl ?_
                    refine sa_cons ?_ ?_
                    · exact se_var 0
                    · refine sa_cons ?_ ?_
                      · exact se_var 4
                      · exact sa_nil
                  · exact se_int
                · exact sa_nil
              · refine se_ix ?_ ?_
                · exact se_var 1
                · exact se_var 4
            · exact sa_nil
      · refine sss_one ?_
        refine ss_ret ?_
        exact se_var 2

theorem sc__law_left : FnScope ["digit"] ["digit"] (defScope s__law_left) := ⟨rfl, rfl, rfl, by decide +kernel, rfl, by decide +kernel, by decide +kernel⟩
def g__law_left : FS := (gSeq (gIf (eBin (dCmp fun i j => decide (i < j)) (eVar 0) (eC (.int 10))) (gRet (eC .non)) gNext)
    (gSeq (gIf (eBin (dCmp fun i j => decide (i < j)) (eVar 0) (eC (.int 20))) (gRet (eC (.str "ever"))) gNext)
    (gSeq (gIf (eBin (dCmp fun i j => decide (i < j)) (eVar 0) (eC (.int 120))) (gRet (eBin dSub (eVar 0) (eC (.int 20)))) gNext)
    (gRet (eBin dMod (eArgs bInt [(eVar 0)]) (eC (.int 3)))))))
def m__law_left : FF := runB 1 g__law_left
theorem ok__law_left (T : Txt K mg) : OkF P w K mg base 1 T.f__law_left.f T.f__law_left.fd ["digit"] m__law_left := by
  refine @okS P w K mg base "_law_left" "_law_left" s__law_left T.f__law_left.f T.f__law_left.fd ["digit"] ["digit"]  0 g__law_left T.f__law_left.fn sc__law_left ?_
  intro cdv A outer s H E hr tk PO
  unfold g__law_left
  refine sss_cons ?_ ?_
  · refine ss_if ?_ ?_ ?_
    · refine st_cmp op_lt os_cmp ?_ ?_ (nomark _)
      · exact se_var 0
      · exact se_int
    · refine sss_one ?_
      refine ss_ret ?_
      exact se_non
    · exact sss_nil
  · refine sss_cons ?_ ?_
    · refine ss_if ?_ ?_ ?_
      · refine st_cmp op_lt os_cmp ?_ ?_ (nomark _)
        · exact se_var 0
        · exact se_int
      · refine sss_one ?_
        refine ss_ret ?_
        exact se_str
      · exact sss_nil
    · refine sss_cons ?_ ?_
      · refine ss_if ?_ ?_ ?_
        · refine st_cmp op_lt os_cmp ?_ ?_ (nomark _)
          · exact se_var 0
          · exact se_int
        · refine sss_one ?_
          refine ss_ret ?_
          refine se_op op_sub os_sub ?_ ?_
          · exact se_var 0
          · exact se_int
        · exact sss_nil
      · refine sss_one ?_
        refine ss_ret ?_
        refine se_op op_mod os_mod ?_ ?_
        · refine se_callTy (call_int1) (cs_int) rfl T.b_int rfl ?_
          refine sa_cons ?_ ?_
          · exact se_var 0
          · exact sa_nil
        · exact se_int

theorem sc__law_pages : FnScope ["digits", "rest", "pages", "written", "row", "k"] ["digits", "rest", "pages", "written"] (defScope s__law_pages) := ⟨rfl, rfl, rfl, by decide +kernel, rfl, by decide +kernel, by decide +kernel⟩
def g__law_pages : FS := (gSeq (gSet 4 (eLst []))
    (gSeq (gFor (fiRg [(eVar 2)]) (tName 5) (gIf (eBin (dCmp fun i j => decide (j ≤ i)) (eVar 5) (eVar 3)) (gDrop (eLm lAppend (eVar 4) [(eC (.str "free"))])) (gIf (eOr (eBin dEq (eBin dMod (eArgs bInt [(eBin dIx (eVar 0) (eVar 5))]) (eC (.int 3))) (eC (.int 0))) (eBin dEq (eArgs bLen [(eVar 1)]) (eC (.int 0)))) (gDrop (eLm lAppend (eVar 4) [(eC (.str "old"))])) (gDrop (eLm lAppend (eVar 4) [(eLm lPopAt (eVar 1) [(eBin dMod (eArgs bInt [(eBin dDiv (eBin dIx (eVar 0) (eVar 5)) (eC (.int 3)))]) (eArgs bLen [(eVar 1)]))])])))))
    (gRet (eArgs bTuple [(eVar 4)]))))
def m__law_pages : FF := runB 6 g__law_pages
theorem ok__law_pages (T : Txt K mg) : OkF P w K mg base 1 T.f__law_pages.f T.f__law_pages.fd ["digits", "rest", "pages", "written"] m__law_pages := by
  refine @okS P w K mg base "_law_pages" "_law_pages" s__law_pages T.f__law_pages.f T.f__law_pages.fd ["digits", "rest", "pages", "written", "row", "k"] ["digits", "rest", "pages", "written"]  0 g__law_pages T.f__law_pages.fn sc__law_pages ?_
  intro cdv A outer s H E hr tk PO
  unfold g__law_pages
  refine sss_cons ?_ ?_
  · refine ss_set sc__law_pages.nd rfl (by first | exact Or.inl rfl | exact Or.inr rfl) ?_
    refine se_lst ?_
    exact sa_nil
  · refine sss_cons ?_ ?_
    · refine ss_for (vs := [5]) (wk := false) PO rfl ?_ ?_ ?_
      · refine si_rg1 rfl T.b_range ?_
        refine sa_cons ?_ ?_
        · exact se_var 2
        · exact sa_nil
      · exact sg_name sc__law_pages.nd rfl (by first | exact Or.inl rfl | exact Or.inr rfl)
      · refine sss_one ?_
        refine ss_if ?_ ?_ ?_
        · refine st_cmp op_ge os_cmp ?_ ?_ (nomark _)
          · exact se_var 5
          · exact se_var 3
        · refine sss_one ?_
          refine ss_expr ?_
          refine se_lm PySem.F.plainAttrs_list PySem.F.slot_list_append PySem.F.type_list_append mt_append ls_append ?_ ?_
          · exact se_var 4
          · refine sa_cons ?_ ?_
            · exact se_str
            · exact sa_nil
        · refine sss_one ?_
          refine ss_if ?_ ?_ ?_
          · refine SW.st ?_
            refine sw_or ?_ ?_
            · refine st_cmp (op_eq2 hr.units) os_eq ?_ ?_ (nomark _)
              · refine se_op op_mod os_mod ?_ ?_
                · refine se_callTy (call_int1) (cs_int) rfl T.b_int rfl ?_
                  refine sa_cons ?_ ?_
                  · refine se_ix ?_ ?_
                    · exact se_var 0
                    · exact se_var 5
                  · exact sa_nil
                · exact se_int
              · exact se_int
            · refine sw_or1 ?_
              refine st_cmp (op_eq2 hr.units) os_eq ?_ ?_ (nomark _)
              · refine se_callB (call_len) (cs_len) rfl T.b_len rfl ?_
                refine sa_cons ?_ ?_
                · exact se_var 1
                · exact sa_nil
              · exact se_int
          · refine sss_one ?_
            refine ss_expr ?_
            refine se_lm PySem.F.plainAttrs_list PySem.F.slot_list_append PySem.F.type_list_append mt_append ls_append ?_ ?_
            · exact se_var 4
            · refine sa_cons ?_ ?_
              · exact se_str
              · exact sa_nil
          · refine sss_one ?_
            refine ss_expr ?_
            refine se_lm PySem.F.plainAttrs_list PySem.F.slot_list_append PySem.F.type_list_append mt_append ls_append ?_ ?_
            · exact se_var 4
            · refine sa_cons ?_ ?_
              · refine se_lm PySem.F.plainAttrs_list PySem.F.slot_list_pop PySem.F.type_list_pop mt_popAt ls_popAt ?_ ?_
                · exact se_var 1
                · refine sa_cons ?_ ?_
                  · refine se_op op_mod os_mod ?_ ?_
                    · refine se_callTy (call_int1) (cs_int) rfl T.b_int rfl ?_
                      refine sa_cons ?_ ?_
                      · refine se_op op_fdivW os_div ?_ ?_
                        · refine se_ix ?_ ?_
                          · exact se_var 0
                          · exact se_var 5
                        · exact se_int
                      · exact sa_nil
                    · refine se_callB (call_len) (cs_len) rfl T.b_len rfl ?_
                      refine sa_cons ?_ ?_
                      · exact se_var 1
                      · exact sa_nil
                  · exact sa_nil
              · exact sa_nil
    · refine sss_one ?_
      refine ss_ret ?_
      refine se_callTy (call_tuple_ofF) (cs_tuple) rfl T.b_tuple rfl ?_
      refine sa_cons ?_ ?_
      · exact se_var 4
      · exact sa_nil

theorem sc__law_block : FnScope ["cell", "rest", "pages", "digits", "left", "written"] ["cell", "rest", "pages"] (defScope s__law_block) := ⟨rfl, rfl, rfl, by decide +kernel, rfl, by decide +kernel, by decide +kernel⟩
def g__law_block : FS := (gSeq (gSet 3 (eArgs m__law_digits [(eVar 0), (eBin dAdd (eLst [(eC (.int 160)), (eBin dAdd (eVar 2) (eC (.int 1)))]) (eBin dMul (eLst [(eC (.int 36))]) (eVar 2)))]))
    (gSeq (gSet 4 (eArgs m__law_left [(eBin dIx (eVar 3) (eC (.int 0)))]))
    (gSeq (gSet 5 (eBin dIx (eVar 3) (eC (.int 1))))
    (gSeq (gIf (eBin dIs (eVar 4) (eC .non)) (gSet 5 (eVar 2)) gNext)
    (gRet (eTup [(eVar 4), (eArgs m__law_pages [(eSl (eVar 3) (some (eC (.int 2))) none), (eVar 1), (eVar 2), (eVar 5)])]))))))
def m__law_block : FF := runB 6 g__law_block
theorem ok__law_block (T : Txt K mg) : OkF P w K mg base 3 T.f__law_block.f T.f__law_block.fd ["cell", "rest", "pages"] m__law_block := by
  refine @okS P w K mg base "_law_block" "_law_block" s__law_block T.f__law_block.f T.f__law_block.fd ["cell", "rest", "pages", "digits", "left", "written"] ["cell", "rest", "pages"]  2 g__law_block T.f__law_block.fn sc__law_block ?_
  intro cdv A outer s H E hr tk PO
  unfold g__law_block
  refine sss_cons ?_ ?_
  · refine ss_set sc__law_block.nd rfl (by first | exact Or.inl rfl | exact Or.inr rfl) ?_
    refine se_callA T.f__law_digits (ok__law_digits T) tk (hr.mono (by decide)) rfl ?_
    refine sa_cons ?_ ?_
    · exact se_var 0
    · refine sa_cons ?_ ?_
      · refine se_op op_add4 os_add ?_ ?_
        · refine se_lst ?_
          refine sa_cons ?_ ?_
          · exact se_int
          · refine sa_cons ?_ ?_
            · refine se_op op_add4 os_add ?_ ?_
              · exact se_var 2
              · exact se_int
            · exact sa_nil
        · refine se_op op_mul2 os_mul ?_ ?_
          · refine se_lst ?_
            refine sa_cons ?_ ?_
            · exact se_int
            · exact sa_nil
          · exact se_var 2
      · exact sa_nil
  · refine sss_cons ?_ ?_
    · refine ss_set sc__law_block.nd rfl (by first | exact Or.inl rfl | exact Or.inr rfl) ?_
      refine se_callA T.f__law_left (ok__law_left T) tk (hr.mono (by decide)) rfl ?_
      refine sa_cons ?_ ?_
      · refine se_ix ?_ ?_
        · exact se_var 3
        · exact se_int
      · exact sa_nil
    · refine sss_cons ?_ ?_
      · refine ss_set sc__law_block.nd rfl (by first | exact Or.inl rfl | exact Or.inr rfl) ?_
        refine se_ix ?_ ?_
        · exact se_var 3
        · exact se_int
      · refine sss_cons ?_ ?_
        · refine ss_if ?_ ?_ ?_
          · refine st_cmp op_is3 os_is ?_ ?_ (nomark _)
            · exact se_var 4
            · exact se_non
          · refine sss_one ?_
            refine ss_set sc__law_block.nd rfl (by first | exact Or.inl rfl | exact Or.inr rfl) ?_
            exact se_var 2
          · exact sss_nil
        · refine sss_one ?_
          refine ss_ret ?_
          refine se_tup ?_
          refine sa_cons ?_ ?_
          · exact se_var 4
          · refine sa_cons ?_ ?_
            · refine se_callA T.f__law_pages (ok__law_pages T) tk (hr.mono (by decide)) rfl ?_
              refine sa_cons ?_ ?_
              · refine se_sl ?_ ?_ ?_
                · exact se_var 3
                · refine SO.yes ?_
                  exact se_int
                · exact SO.no
              · refine sa_cons ?_ ?_
                · exact se_var 1
                · refine sa_cons ?_ ?_
                  · exact se_var 2
                  · refine sa_cons ?_ ?_
                    · exact se_var 5
                    · exact sa_nil
            · exact sa_nil

theorem sc__law_drawn : FnScope ["script", "at", "head", "keys", "rest", "rows", "b", "due"] ["script", "at"] (defScope s__law_drawn) := ⟨rfl, rfl, rfl, by decide +kernel, rfl, by decide +kernel, by decide +kernel⟩
def g__law_drawn : FS := (gSeq (gSet 2 (eArgs m__law_digits [(eArgs m__law_cell [(eVar 0), (eVar 1)]), (eLst [(eC (.int 9)), (eC (.int 9)), (eC (.int 6)), (eC (.int 10)), (eC (.int 10)), (eC (.int 18))])]))
    (gSeq (gSet 3 (eBin dAdd (eC (.int 1)) (eBin dIx (eVar 2) (eC (.int 0)))))
    (gSeq (gSet 4 (eListRg (eVar 3)))
    (gSeq (gSet 5 (eLst []))
    (gSeq (gFor (fiRg [(eBin dAdd (eC (.int 1)) (eBin dIx (eVar 2) (eC (.int 1))))]) (tName 6) (gDrop (eLm lAppend (eVar 5) [(eArgs m__law_block [(eArgs m__law_cell [(eVar 0), (eBin dAdd (eBin dAdd (eVar 1) (eC (.int 1))) (eVar 6))]), (eVar 4), (eBin dAdd (eC (.int 1)) (eBin dIx (eVar 2) (eC (.int 2))))])])))
    (gSeq (gSet 7 (eC .non))
    (gSeq (gIf (eBin (dCmp fun i j => decide (j ≤ i)) (eBin dIx (eVar 2) (eC (.int 5))) (eC (.int 9))) (gSet 7 (eBin dMod (eArgs bInt [(eBin dSub (eBin dIx (eVar 2) (eC (.int 5))) (eC (.int 9)))]) (eVar 3))) gNext)
    (gRet (eTup [(eVar 3), (eArgs bTuple [(eVar 5)]), (eBin dIx (eVar 2) (eC (.int 3))), (eBin dIx (eVar 2) (eC (.int 4))), (eVar 7)])))))))))
def m__law_drawn : FF := runB 8 g__law_drawn
theorem ok__law_drawn (T : Txt K mg) : OkF P w K mg base 4 T.f__law_drawn.f T.f__law_drawn.fd ["script", "at"] m__law_drawn := by
  refine @okS P w K mg base "_law_drawn" "_law_drawn" s__law_drawn T.f__law_drawn.f T.f__law_drawn.fd ["script", "at", "head", "keys", "rest", "rows", "b", "due"] ["script", "at"]  3 g__law_drawn T.f__law_drawn.fn sc__law_drawn ?_
  intro cdv A outer s H E hr tk PO
  unfold g__law_drawn
  refine sss_cons ?_ ?_
  · refine ss_set sc__law_drawn.nd rfl (by first | exact Or.inl rfl | exact Or.inr rfl) ?_
    refine se_callA T.f__law_digits (ok__law_digits T) tk (hr.mono (by decide)) rfl ?_
    refine sa_cons ?_ ?_
    · refine se_callA T.f__law_cell (ok__law_cell T) tk (hr.mono (by decide)) rfl ?_
      refine sa_cons ?_ ?_
      · exact se_var 0
      · refine sa_cons ?_ ?_
        · exact se_var 1
        · exact sa_nil
    · refine sa_cons ?_ ?_
      · refine se_lst ?_
        refine sa_cons ?_ ?_
        · exact se_int
        · refine sa_cons ?_ ?_
          · exact se_int
          · refine sa_cons ?_ ?_
            · exact se_int
            · refine sa_cons ?_ ?_
              · exact se_int
              · refine sa_cons ?_ ?_
                · exact se_int
                · refine sa_cons ?_ ?_
                  · exact se_int
                  · exact sa_nil
      · exact sa_nil
  · refine sss_cons ?_ ?_
    · refine ss_set sc__law_drawn.nd rfl (by first | exact Or.inl rfl | exact Or.inr rfl) ?_
      refine se_op op_add4 os_add ?_ ?_
      · exact se_int
      · refine se_ix ?_ ?_
        · exact se_var 2
        · exact se_int
    · refine sss_cons ?_ ?_
      · refine ss_set sc__law_drawn.nd rfl (by first | exact Or.inl rfl | exact Or.inr rfl) ?_
        refine se_listRg rfl rfl T.b_list rfl T.b_range ?_
        exact se_var 3
      · refine sss_cons ?_ ?_
        · refine ss_set sc__law_drawn.nd rfl (by first | exact Or.inl rfl | exact Or.inr rfl) ?_
          refine se_lst ?_
          exact sa_nil
        · refine sss_cons ?_ ?_
          · refine ss_for (vs := [6]) (wk := false) PO rfl ?_ ?_ ?_
            · refine si_rg1 rfl T.b_range ?_
              refine sa_cons ?_ ?_
              · refine se_op op_add4 os_add ?_ ?_
                · exact se_int
                · refine se_ix ?_ ?_
                  · exact se_var 2
                  · exact se_int
              · exact sa_nil
            · exact sg_name sc__law_drawn.nd rfl (by first | exact Or.inl rfl | exact Or.inr rfl)
            · refine sss_one ?_
              refine ss_expr ?_
              refine se_lm PySem.F.plainAttrs_list PySem.F.slot_list_append PySem.F.type_list_append mt_append ls_append ?_ ?_
              · exact se_var 5
              · refine sa_cons ?_ ?_
                · refine se_callA T.f__law_block (ok__law_block T) tk (hr.mono (by decide)) rfl ?_
                  refine sa_cons ?_ ?_
                  · refine se_callA T.f__law_cell (ok__law_cell T) tk (hr.mono (by decide)) rfl ?_
                    refine sa_cons ?_ ?_
                    · exact se_var 0
                    · refine sa_cons ?_ ?_
                      · refine se_op op_add4 os_add ?_ ?_
                        · refine se_op op_add4 os_add ?_ ?_
                          · exact se_var 1
                          · exact se_int
                        · exact se_var 6
                      · exact sa_nil
                  · refine sa_cons ?_ ?_
                    · exact se_var 4
                    · refine sa_cons ?_ ?_
                      · refine se_op op_add4 os_add ?_ ?_
                        · exact se_int
                        · refine se_ix ?_ ?_
                          · exact se_var 2
                          · exact se_int
                      · exact sa_nil
                · exact sa_nil
          · refine sss_cons ?_ ?_
            · refine ss_set sc__law_drawn.nd rfl (by first | exact Or.inl rfl | exact Or.inr rfl) ?_
              exact se_non
            · refine sss_cons ?_ ?_
              · refine ss_if ?_ ?_ ?_
                · refine st_cmp op_ge os_cmp ?_ ?_ (nomark _)
                  · refine se_ix ?_ ?_
                    · exact se_var 2
                    · exact se_int
                  · exact se_int
                · refine sss_one ?_
                  refine ss_set sc__law_drawn.nd rfl (by first | exact Or.inl rfl | exact Or.inr rfl) ?_
                  refine se_op op_mod os_mod ?_ ?_
                  · refine se_callTy (call_int1) (cs_int) rfl T.b_int rfl ?_
                    refine sa_cons ?_ ?_
                    · refine se_op op_sub os_sub ?_ ?_
                      · refine se_ix ?_ ?_
                        · exact se_var 2
                        · exact se_int
                      · exact se_int
                    · exact sa_nil
                  · exact se_var 3
                · exact sss_nil
              · refine sss_one ?_
                refine ss_ret ?_
                refine se_tup ?_
                refine sa_cons ?_ ?_
                · exact se_var 3
                · refine sa_cons ?_ ?_
                  · refine se_callTy (call_tuple_ofF) (cs_tuple) rfl T.b_tuple rfl ?_
                    refine sa_cons ?_ ?_
                    · exact se_var 5
                    · exact sa_nil
                  · refine sa_cons ?_ ?_
                    · refine se_ix ?_ ?_
                      · exact se_var 2
                      · exact se_int
                    · refine sa_cons ?_ ?_
                      · refine se_ix ?_ ?_
                        · exact se_var 2
                        · exact se_int
                      · refine sa_cons ?_ ?_
                        · exact se_var 7
                        · exact sa_nil

theorem sc__law_small_left : FnScope ["digit"] ["digit"] (defScope s__law_small_left) := ⟨rfl, rfl, rfl, by decide +kernel, rfl, by decide +kernel, by decide +kernel⟩
def g__law_small_left : FS := (gRet (eBin dIx (eLst [(eC (.int 0)), (eC (.int 1)), (eC (.int 2)), (eC (.str "ever")), (eC .non), (eC (.int 1))]) (eVar 0)))
def m__law_small_left : FF := runB 1 g__law_small_left
theorem ok__law_small_left (T : Txt K mg) : OkF P w K mg base 1 T.f__law_small_left.f T.f__law_small_left.fd ["digit"] m__law_small_left := by
  refine @okS P w K mg base "_law_small_left" "_law_small_left" s__law_small_left T.f__law_small_left.f T.f__law_small_left.fd ["digit"] ["digit"]  0 g__law_small_left T.f__law_small_left.fn sc__law_small_left ?_
  intro cdv A outer s H E hr tk PO
  unfold g__law_small_left
  refine sss_one ?_
  refine ss_ret ?_
  refine se_ix ?_ ?_
  · refine se_lst ?_
    refine sa_cons ?_ ?_
    · exact se_int
    · refine sa_cons ?_ ?_
      · exact se_int
      · refine sa_cons ?_ ?_
        · exact se_int
        · refine sa_cons ?_ ?_
          · exact se_str
          · refine sa_cons ?_ ?_
            · exact se_non
            · refine sa_cons ?_ ?_
              · exact se_int
              · exact sa_nil
  · exact se_var 0

theorem sc__law_small : FnScope ["script", "at", "most_fails", "most_cuts", "head", "keys", "rest", "rows", "b", "digits", "left", "written", "due"] ["script", "at", "most_fails", "most_cuts"] (defScope s__law_small) := ⟨rfl, rfl, rfl, by decide +kernel, rfl, by decide +kernel, by decide +kernel⟩
def g__law_small : FS := (gSeq (gSet 4 (eArgs m__law_digits [(eArgs m__law_cell [(eVar 0), (eVar 1)]), (eLst [(eC (.int 3)), (eC (.int 3)), (eC (.int 2)), (eBin dAdd (eVar 2) (eC (.int 1))), (eBin dAdd (eVar 3) (eC (.int 1))), (eC (.int 4))])]))
    (gSeq (gSet 5 (eBin dAdd (eC (.int 1)) (eBin dIx (eVar 4) (eC (.int 0)))))
    (gSeq (gSet 6 (eListRg (eVar 5)))
    (gSeq (gSet 7 (eLst []))
    (gSeq (gFor (fiRg [(eBin dAdd (eC (.int 1)) (eBin dIx (eVar 4) (eC (.int 1))))]) (tName 8) (gSeq (gSet 9 (eArgs m__law_digits [(eArgs m__law_cell [(eVar 0), (eBin dAdd (eBin dAdd (eVar 1) (eC (.int 1))) (eVar 8))]), (eLst [(eC (.int 6)), (eC (.int 4)), (eC (.int 36)), (eC (.int 36))])]))
    (gSeq (gSet 10 (eArgs m__law_small_left [(eBin dIx (eVar 9) (eC (.int 0)))]))
    (gSeq (gSet 11 (eBin dMod (eArgs bInt [(eBin dIx (eVar 9) (eC (.int 1)))]) (eBin dAdd (eC (.int 2)) (eBin dIx (eVar 4) (eC (.int 2))))))
    (gSeq (gIf (eBin dIs (eVar 10) (eC .non)) (gSet 11 (eBin dAdd (eC (.int 1)) (eBin dIx (eVar 4) (eC (.int 2))))) gNext)
    (gDrop (eLm lAppend (eVar 7) [(eTup [(eVar 10), (eArgs m__law_pages [(eSl (eVar 9) (some (eC (.int 2))) none), (eVar 6), (eBin dAdd (eC (.int 1)) (eBin dIx (eVar 4) (eC (.int 2)))), (eVar 11)])])])))))))
    (gSeq (gSet 12 (eC .non))
    (gSeq (gIf (eBin (dCmp fun i j => decide (j ≤ i)) (eBin dIx (eVar 4) (eC (.int 5))) (eC (.int 2))) (gSet 12 (eBin dMod (eArgs bInt [(eBin dIx (eVar 4) (eC (.int 5)))]) (eVar 5))) gNext)
    (gRet (eTup [(eVar 5), (eArgs bTuple [(eVar 7)]), (eBin dIx (eVar 4) (eC (.int 3))), (eBin dIx (eVar 4) (eC (.int 4))), (eVar 12)])))))))))
def m__law_small : FF := runB 13 g__law_small
theorem ok__law_small (T : Txt K mg) : OkF P w K mg base 3 T.f__law_small.f T.f__law_small.fd ["script", "at", "most_fails", "most_cuts"] m__law_small := by
  refine @okS P w K mg base "_law_small" "_law_small" s__law_small T.f__law_small.f T.f__law_small.fd ["script", "at", "most_fails", "most_cuts", "head", "keys", "rest", "rows", "b", "digits", "left", "written", "due"] ["script", "at", "most_fails", "most_cuts"]  2 g__law_small T.f__law_small.fn sc__law_small ?_
  intro cdv A outer s H E hr tk PO
  unfold g__law_small
  refine sss_cons ?_ ?_
  · refine ss_set sc__law_small.nd rfl (by first | exact Or.inl rfl | exact Or.inr rfl) ?_
    refine se_callA T.f__law_digits (ok__law_digits T) tk (hr.mono (by decide)) rfl ?_
    refine sa_cons ?_ ?_
    · refine se_callA T.f__law_cell (ok__law_cell T) tk (hr.mono (by decide)) rfl ?_
      refine sa_cons ?_ ?_
      · exact se_var 0
      · refine sa_cons ?_ ?_
        · exact se_var 1
        · exact sa_nil
    · refine sa_cons ?_ ?_
      · refine se_lst ?_
        refine sa_cons ?_ ?_
        · exact se_int
        · refine sa_cons ?_ ?_
          · exact se_int
          · refine sa_cons ?_ ?_
            · exact se_int
            · refine sa_cons ?_ ?_
              · refine se_op op_add4 os_add ?_ ?_
                · exact se_var 2
                · exact se_int
              · refine sa_cons ?_ ?_
                · refine se_op op_add4 os_add ?_ ?_
                  · exact se_var 3
                  · exact se_int
                · refine sa_cons ?_ ?_
                  · exact se_int
                  · exact sa_nil
      · exact sa_nil
  · refine sss_cons ?_ ?_
    · refine ss_set sc__law_small.nd rfl (by first | exact Or.inl rfl | exact Or.inr rfl) ?_
      refine se_op op_add4 os_add ?_ ?_
      · exact se_int
      · refine se_ix ?_ ?_
        · exact se_var 4
        · exact se_int
    · refine sss_cons ?_ ?_
      · refine ss_set sc__law_small.nd rfl (by first | exact Or.inl rfl | exact Or.inr rfl) ?_
        refine se_listRg rfl rfl T.b_list rfl T.b_range ?_
        exact se_var 5
      · refine sss_cons ?_ ?_
        · refine ss_set sc__law_small.nd rfl (by first | exact Or.inl rfl | exact Or.inr rfl) ?_
          refine se_lst ?_
          exact sa_nil
        · refine sss_cons ?_ ?_
          · refine ss_for (vs := [8]) (wk := false) PO rfl ?_ ?_ ?_
            · refine si_rg1 rfl T.b_range ?_
              refine sa_cons ?_ ?_
              · refine se_op op_add4 os_add ?_ ?_
                · exact se_int
                · refine se_ix ?_ ?_
                  · exact se_var 4
                  · exact se_int
              · exact sa_nil
            · exact sg_name sc__law_small.nd rfl (by first | exact Or.inl rfl | exact Or.inr rfl)
            · refine sss_cons ?_ ?_
              · refine ss_set sc__law_small.nd rfl (by first | exact Or.inl rfl | exact Or.inr rfl) ?_
                refine se_callA T.f__law_digits (ok__law_digits T) tk (hr.mono (by decide)) rfl ?_
                refine sa_cons ?_ ?_
                · refine se_callA T.f__law_cell (ok__law_cell T) tk (hr.mono (by decide)) rfl ?_
                  refine sa_cons ?_ ?_
                  · exact se_var 0
                  · refine sa_cons ?_ ?_
                    · refine se_op op_add4 os_add ?_ ?_
                      · refine se_op op_add4 os_add ?_ ?_
                        · exact se_var 1
                        · exact se_int
                      · exact se_var 8
                    · exact sa_nil
                · refine sa_cons ?_ ?_
                  · refine se_lst ?_
                    refine sa_cons ?_ ?_
                    · exact se_int
                    · refine sa_cons ?_ ?_
                      · exact se_int
                      · refine sa_cons ?_ ?_
                        · exact se_int
                        · refine sa_cons ?_ ?_
                          · exact se_int
                          · exact sa_nil
                  · exact sa_nil
              · refine sss_cons ?_ ?_
                · refine ss_set sc__law_small.nd rfl (by first | exact Or.inl rfl | exact Or.inr rfl) ?_
                  refine se_callA T.f__law_small_left (ok__law_small_left T) tk (hr.mono (by decide)) rfl ?_
                  refine sa_cons ?_ ?_
                  · refine se_ix ?_ ?_
                    · exact se_var 9
                    · exact se_int
                  · exact sa_nil
                · refine sss_cons ?_ ?_
                  · refine ss_set sc__law_small.nd rfl (by first | exact Or.inl rfl | exact Or.inr rfl) ?_
                    refine se_op op_mod os_mod ?_ ?_
                    · refine se_callTy (call_int1) (cs_int) rfl T.b_int rfl ?_
                      refine sa_cons ?_ ?_
                      · refine se_ix ?_ ?_
                        · exact se_var 9
                        · exact se_int
                      · exact sa_nil
                    · refine se_op op_add4 os_add ?_ ?_
                      · exact se_int
                      · refine se_ix ?_ ?_
                        · exact se_var 4
                        · exact se_int
                  · refine sss_cons ?_ ?_
                    · refine ss_if ?_ ?_ ?_
                      · refine st_cmp op_is3 os_is ?_ ?_ (nomark _)
                        · exact se_var 10
                        · exact se_non
                      · refine sss_one ?_
                        refine ss_set sc__law_small.nd rfl (by first | exact Or.inl rfl | exact Or.inr rfl) ?_
                        refine se_op op_add4 os_add ?_ ?_
                        · exact se_int
                        · refine se_ix ?_ ?_
                          · exact se_var 4
                          · exact se_int
                      · exact sss_nil
                    · refine sss_one ?_
                      refine ss_expr ?_
                      refine se_lm PySem.F.plainAttrs_list PySem.F.slot_list_append PySem.F.type_list_append mt_append ls_append ?_ ?_
                      · exact se_var 7
                      · refine sa_cons ?_ ?_
                        · refine se_tup ?_
                          refine sa_cons ?_ ?_
                          · exact se_var 10
                          · refine sa_cons ?_ ?_
                            · refine se_callA T.f__law_pages (ok__law_pages T) tk (hr.mono (by decide)) rfl ?_
                              refine sa_cons ?_ ?_
                              · refine se_sl ?_ ?_ ?_
                                · exact se_var 9
                                · refine SO.yes ?_
                                  exact se_int
                                · exact SO.no
                              · refine sa_cons ?_ ?_
                                · exact se_var 6
                                · refine sa_cons ?_ ?_
                                  · refine se_op op_add4 os_add ?_ ?_
                                    · exact se_int
                                    · refine se_ix ?_ ?_
                                      · exact se_var 4
                                      · exact se_int
                                  · refine sa_cons ?_ ?_
                                    · exact se_var 11
                                    · exact sa_nil
                            · exact sa_nil
                        · exact sa_nil
          · refine sss_cons ?_ ?_
            · refine ss_set sc__law_small.nd rfl (by first | exact Or.inl rfl | exact Or.inr rfl) ?_
              exact se_non
            · refine sss_cons ?_ ?_
              · refine ss_if ?_ ?_ ?_
                · refine st_cmp op_ge os_cmp ?_ ?_ (nomark _)
                  · refine se_ix ?_ ?_
                    · exact se_var 4
                    · exact se_int
                  · exact se_int
                · refine sss_one ?_
                  refine ss_set sc__law_small.nd rfl (by first | exact Or.inl rfl | exact Or.inr rfl) ?_
                  refine se_op op_mod os_mod ?_ ?_
                  · refine se_callTy (call_int1) (cs_int) rfl T.b_int rfl ?_
                    refine sa_cons ?_ ?_
                    · refine se_ix ?_ ?_
                      · exact se_var 4
                      · exact se_int
                    · exact sa_nil
                  · exact se_var 5
                · exact sss_nil
              · refine sss_one ?_
                refine ss_ret ?_
                refine se_tup ?_
                refine sa_cons ?_ ?_
                · exact se_var 5
                · refine sa_cons ?_ ?_
                  · refine se_callTy (call_tuple_ofF) (cs_tuple) rfl T.b_tuple rfl ?_
                    refine sa_cons ?_ ?_
                    · exact se_var 7
                    · exact sa_nil
                  · refine sa_cons ?_ ?_
                    · refine se_ix ?_ ?_
                      · exact se_var 4
                      · exact se_int
                    · refine sa_cons ?_ ?_
                      · refine se_ix ?_ ?_
                        · exact se_var 4
                        · exact se_int
                      · refine sa_cons ?_ ?_
                        · exact se_var 12
                        · exact sa_nil

theorem sc__law_any_stand : FnScope ["script", "at"] ["script", "at"] (defScope s__law_any_stand) := ⟨rfl, rfl, rfl, by decide +kernel, rfl, by decide +kernel, by decide +kernel⟩
def g__law_any_stand : FS := (gSeq (gIf (eBin dEq (eBin dIx (eArgs m__law_digits [(eArgs m__law_cell [(eVar 0), (eC (.int 0))]), (eLst [(eC (.int 2))])]) (eC (.int 0))) (eC (.int 0))) (gRet (eArgs m__law_drawn [(eVar 0), (eVar 1)])) gNext)
    (gRet (eArgs m__law_small [(eVar 0), (eVar 1), (eC (.int 2)), (eC (.int 2))])))
def m__law_any_stand : FF := runB 2 g__law_any_stand
theorem ok__law_any_stand (T : Txt K mg) : OkF P w K mg base 5 T.f__law_any_stand.f T.f__law_any_stand.fd ["script", "at"] m__law_any_stand := by
  refine @okS P w K mg base "_law_any_stand" "_law_any_stand" s__law_any_stand T.f__law_any_stand.f T.f__law_any_stand.fd ["script", "at"] ["script", "at"]  4 g__law_any_stand T.f__law_any_stand.fn sc__law_any_stand ?_
  intro cdv A outer s H E hr tk PO
  unfold g__law_any_stand
  refine sss_cons ?_ ?_
  · refine ss_if ?_ ?_ ?_
    · refine st_cmp (op_eq2 hr.units) os_eq ?_ ?_ (nomark _)
      · refine se_ix ?_ ?_
        · refine se_callA T.f__law_digits (ok__law_digits T) tk (hr.mono (by decide)) rfl ?_
          refine sa_cons ?_ ?_
          · refine se_callA T.f__law_cell (ok__law_cell T) tk (hr.mono (by decide)) rfl ?_
            refine sa_cons ?_ ?_
            · exact se_var 0
            · refine sa_cons ?_ ?_
              · exact se_int
              · exact sa_nil
          · refine sa_cons ?_ ?_
            · refine se_lst ?_
              refine sa_cons ?_ ?_
              · exact se_int
              · exact sa_nil
            · exact sa_nil
        · exact se_int
      · exact se_int
    · refine sss_one ?_
      refine ss_ret ?_
      refine se_callA T.f__law_drawn (ok__law_drawn T) tk (hr.mono (by decide)) rfl ?_
      refine sa_cons ?_ ?_
      · exact se_var 0
      · refine sa_cons ?_ ?_
        · exact se_var 1
        · exact sa_nil
    · exact sss_nil
  · refine sss_one ?_
    refine ss_ret ?_
    refine se_callA T.f__law_small (ok__law_small T) tk (hr.mono (by decide)) rfl ?_
    refine sa_cons ?_ ?_
    · exact se_var 0
    · refine sa_cons ?_ ?_
      · exact se_var 1
      · refine sa_cons ?_ ?_
        · exact se_int
        · refine sa_cons ?_ ?_
          · exact se_int
          · exact sa_nil

theorem sc_is_whole : FnScope ["thing", "low", "high"] ["thing", "low", "high"] (defScope s_is_whole) := ⟨rfl, rfl, rfl, by decide +kernel, rfl, by decide +kernel, by decide +kernel⟩
def g_is_whole : FS := (gRet (eAnd (eIsi "int" (eVar 0)) (eAnd (eNot (eIsi "bool" (eVar 0))) (eChain (dCmp fun i j => decide (i ≤ j)) (dCmp fun i j => decide (i ≤ j)) (eVar 1) (eVar 0) (eVar 2)))))
def m_is_whole : FF := runB 3 g_is_whole
theorem ok_is_whole (T : Txt K mg) : OkF P w K mg base 1 T.f_is_whole.f T.f_is_whole.fd ["thing", "low", "high"] m_is_whole := by
  refine @okS P w K mg base "is_whole" "is_whole" s_is_whole T.f_is_whole.f T.f_is_whole.fd ["thing", "low", "high"] ["thing", "low", "high"]  0 g_is_whole T.f_is_whole.fn sc_is_whole ?_
  intro cdv A outer s H E hr tk PO
  unfold g_is_whole
  refine sss_one ?_
  refine ss_ret ?_
  refine se_and ?_ ?_
  · refine se_isi ?_ rfl T.b_isinstance rfl rfl T.b_int rfl
    exact se_var 0
  · refine se_and ?_ ?_
    · refine se_not ?_
      refine se_isi ?_ rfl T.b_isinstance rfl rfl T.b_bool rfl
      exact se_var 0
    · refine se_one ?_
      refine se_chain op_le op_le os_cmp os_cmp ?_ ?_ ?_
      · exact se_var 1
      · exact se_var 0
      · exact se_var 2

theorem sc_is_left : FnScope ["left"] ["left"] (defScope s_is_left) := ⟨rfl, rfl, rfl, by decide +kernel, rfl, by decide +kernel, by decide +kernel⟩
def g_is_left : FS := (gRet (eOr (eBin dIs (eVar 0) (eC .non)) (eOr (eBin dEq (eVar 0) (eC (.str "ever"))) (eArgs m_is_whole [(eVar 0), (eC (.int 0)), (eC (.int 99))]))))
def m_is_left : FF := runB 1 g_is_left
theorem ok_is_left (T : Txt K mg) : OkF P w K mg base 2 T.f_is_left.f T.f_is_left.fd ["left"] m_is_left := by
  refine @okS P w K mg base "is_left" "is_left" s_is_left T.f_is_left.f T.f_is_left.fd ["left"] ["left"]  1 g_is_left T.f_is_left.fn sc_is_left ?_
  intro cdv A outer s H E hr tk PO
  unfold g_is_left
  refine sss_one ?_
  refine ss_ret ?_
  refine se_or ?_ ?_
  · refine se_cmp op_is3 os_is ?_ ?_ (nomark _)
    · exact se_var 0
    · exact se_non
  · refine se_or ?_ ?_
    · refine se_cmp (op_eq2 hr.units) os_eq ?_ ?_ (nomark _)
      · exact se_var 0
      · exact se_str
    · refine se_one ?_
      refine se_callA T.f_is_whole (ok_is_whole T) tk (hr.mono (by decide)) rfl ?_
      refine sa_cons ?_ ?_
      · exact se_var 0
      · refine sa_cons ?_ ?_
        · exact se_int
        · refine sa_cons ?_ ?_
          · exact se_gint (t := T.c_MOST_LEFT.choose) rfl T.c_MOST_LEFT.choose_spec
          · exact sa_nil

theorem sc_is_key : FnScope ["thing", "keys"] ["thing", "keys"] (defScope s_is_key) := ⟨rfl, rfl, rfl, by decide +kernel, rfl, by decide +kernel, by decide +kernel⟩
def g_is_key : FS := (gRet (eArgs m_is_whole [(eVar 0), (eC (.int 0)), (eBin dSub (eVar 1) (eC (.int 1)))]))
def m_is_key : FF := runB 2 g_is_key
theorem ok_is_key (T : Txt K mg) : OkF P w K mg base 2 T.f_is_key.f T.f_is_key.fd ["thing", "keys"] m_is_key := by
  refine @okS P w K mg base "is_key" "is_key" s_is_key T.f_is_key.f T.f_is_key.fd ["thing", "keys"] ["thing", "keys"]  1 g_is_key T.f_is_key.fn sc_is_key ?_
  intro cdv A outer s H E hr tk PO
  unfold g_is_key
  refine sss_one ?_
  refine ss_ret ?_
  refine se_callA T.f_is_whole (ok_is_whole T) tk (hr.mono (by decide)) rfl ?_
  refine sa_cons ?_ ?_
  · exact se_var 0
  · refine sa_cons ?_ ?_
    · exact se_int
    · refine sa_cons ?_ ?_
      · refine se_op op_sub os_sub ?_ ?_
        · exact se_var 1
        · exact se_int
      · exact sa_nil

theorem sc_is_block : FnScope ["block", "keys", "left", "pages", "free", "page"] ["block", "keys"] (defScope s_is_block) := ⟨rfl, rfl, rfl, by decide +kernel, rfl, by decide +kernel, by decide +kernel⟩
def g_is_block : FS := (gSeq (gIf (eOr (eNot (eIsi "tuple" (eVar 0))) (eOr (eBin dNe (eArgs bLen [(eVar 0)]) (eC (.int 2))) (eNot (eArgs m_is_left [(eBin dIx (eVar 0) (eC (.int 0)))])))) (gRet (eC (.bl false))) gNext)
    (gSeq (gAsg (eVar 0) (tTup [(tName 2), (tName 3)]))
    (gSeq (gIf (eOr (eNot (eIsi "tuple" (eVar 3))) (eNot (eChain (dCmp fun i j => decide (i ≤ j)) (dCmp fun i j => decide (i ≤ j)) (eC (.int 1)) (eArgs bLen [(eVar 3)]) (eC (.int 6))))) (gRet (eC (.bl false))) gNext)
    (gSeq (gIf (eNot (eArgs bAll [(eLc (fiSeq (eVar 3)) (tName 5) (eC (.bl true)) (eOr (eBin dEq (eVar 5) (eC (.str "free"))) (eOr (eBin dEq (eVar 5) (eC (.str "old"))) (eArgs m_is_key [(eVar 5), (eVar 1)]))) [5])])) (gRet (eC (.bl false))) gNext)
    (gSeq (gSet 4 (eTm tCount (eVar 3) [(eC (.str "free"))]))
    (gSeq (gIf (eBin dIs (eVar 2) (eC .non)) (gRet (eBin dEq (eVar 4) (eC (.int 0)))) gNext)
    (gRet (eBin dNotIn (eC (.str "free")) (eSl (eVar 3) none (some (eBin dSub (eArgs bLen [(eVar 3)]) (eVar 4))))))))))))
def m_is_block : FF := runB 6 g_is_block
theorem ok_is_block (T : Txt K mg) : OkF P w K mg base 3 T.f_is_block.f T.f_is_block.fd ["block", "keys"] m_is_block := by
  refine @okS P w K mg base "is_block" "is_block" s_is_block T.f_is_block.f T.f_is_block.fd ["block", "keys", "left", "pages", "free", "page"] ["block", "keys"]  2 g_is_block T.f_is_block.fn sc_is_block ?_
  intro cdv A outer s H E hr tk PO
  unfold g_is_block
  refine sss_cons ?_ ?_
  · refine ss_if ?_ ?_ ?_
    · refine SW.st ?_
      refine sw_or ?_ ?_
      · refine st_not ?_
        refine st_val ?_
        refine se_isi ?_ rfl T.b_isinstance rfl rfl T.b_tuple rfl
        exact se_var 0
      · refine sw_or ?_ ?_
        · refine st_cmp (op_ne2 hr.units) os_ne ?_ ?_ (nomark _)
          · refine se_callB (call_len) (cs_len) rfl T.b_len rfl ?_
            refine sa_cons ?_ ?_
            · exact se_var 0
            · exact sa_nil
          · exact se_int
        · refine sw_or1 ?_
          refine st_not ?_
          refine st_val ?_
          refine se_callA T.f_is_left (ok_is_left T) tk (hr.mono (by decide)) rfl ?_
          refine sa_cons ?_ ?_
          · refine se_ix ?_ ?_
            · exact se_var 0
            · exact se_int
          · exact sa_nil
    · refine sss_one ?_
      refine ss_ret ?_
      exact se_bl
    · exact sss_nil
  · refine sss_cons ?_ ?_
    · refine ss_asg (vs := [2, 3]) ?_ ?_
      · exact se_var 0
      · refine sg_tup rfl ?_
        refine sgs_cons (vs := [2]) (ws := [3]) ?_ ?_
        · exact sg_name sc_is_block.nd rfl (by first | exact Or.inl rfl | exact Or.inr rfl)
        · refine sgs_cons (vs := [3]) (ws := []) ?_ ?_
          · exact sg_name sc_is_block.nd rfl (by first | exact Or.inl rfl | exact Or.inr rfl)
          · exact sgs_nil
    · refine sss_cons ?_ ?_
      · refine ss_if ?_ ?_ ?_
        · refine SW.st ?_
          refine sw_or ?_ ?_
          · refine st_not ?_
            refine st_val ?_
            refine se_isi ?_ rfl T.b_isinstance rfl rfl T.b_tuple rfl
            exact se_var 3
          · refine sw_or1 ?_
            refine st_not ?_
            refine st_chain op_le op_le os_cmp os_cmp ?_ ?_ ?_
            · exact se_int
            · refine se_callB (call_len) (cs_len) rfl T.b_len rfl ?_
              refine sa_cons ?_ ?_
              · exact se_var 3
              · exact sa_nil
            · exact se_gint (t := T.c_MOST_PAGES.choose) rfl T.c_MOST_PAGES.choose_spec
        · refine sss_one ?_
          refine ss_ret ?_
          exact se_bl
        · exact sss_nil
      · refine sss_cons ?_ ?_
        · refine ss_if ?_ ?_ ?_
          · refine st_not ?_
            refine st_val ?_
            refine se_callB (cr_all rfl) (cs_quant _) rfl T.b_all rfl ?_
            refine sa_cons ?_ ?_
            · refine se_lc (own := [("page", 5)]) (vs := [5]) (wk := false) rfl sc_is_block.nd ?_ (show BlkOk ["block", "keys", "left", "pages", "free", "page"] (defScope s_is_block) _ _ from ⟨rfl, by decide +kernel, by decide +kernel, by decide +kernel, by decide +kernel⟩) (fun _ _ _ _ _ => ?_) (fun _ _ _ _ _ => ?_) (fun _ _ _ _ _ => ?_)
              · refine si_seq ?_
                exact se_var 3
              · exact sg_name sc_is_block.nd rfl (by first | exact Or.inl rfl | exact Or.inr rfl)
              · exact sts_nil
              · refine se_or ?_ ?_
                · refine se_cmp (op_eq2 hr.units) os_eq ?_ ?_ (nomark _)
                  · exact se_var 5
                  · exact se_str
                · refine se_or ?_ ?_
                  · refine se_cmp (op_eq2 hr.units) os_eq ?_ ?_ (nomark _)
                    · exact se_var 5
                    · exact se_str
                  · refine se_one ?_
                    refine se_callA T.f_is_key (ok_is_key T) takesW0 (hr.mono (by decide)) rfl ?_
                    refine sa_cons ?_ ?_
                    · exact se_var 5
                    · refine sa_cons ?_ ?_
                      · exact se_var 1
                      · exact sa_nil
            · exact sa_nil
          · refine sss_one ?_
            refine ss_ret ?_
            exact se_bl
          · exact sss_nil
        · refine sss_cons ?_ ?_
          · refine ss_set sc_is_block.nd rfl (by first | exact Or.inl rfl | exact Or.inr rfl) ?_
            refine se_tm PySem.F.plainAttrs_tuple PySem.F.slot_tuple_count PySem.F.type_tuple_count (mt_tcount hr.units) ts_count ?_ ?_
            · exact se_var 3
            · refine sa_cons ?_ ?_
              · exact se_str
              · exact sa_nil
          · refine sss_cons ?_ ?_
            · refine ss_if ?_ ?_ ?_
              · refine st_cmp op_is3 os_is ?_ ?_ (nomark _)
                · exact se_var 2
                · exact se_non
              · refine sss_one ?_
                refine ss_ret ?_
                refine se_cmp (op_eq2 hr.units) os_eq ?_ ?_ (nomark _)
                · exact se_var 4
                · exact se_int
              · exact sss_nil
            · refine sss_one ?_
              refine ss_ret ?_
              refine se_cmp (op_notIn2 (units65 hr)) os_notIn ?_ ?_ (by with_unfolding_all rfl)
              · exact se_str
              · refine se_sl ?_ ?_ ?_
                · exact se_var 3
                · exact SO.no
                · refine SO.yes ?_
                  refine se_op op_sub os_sub ?_ ?_
                  · refine se_callB (call_len) (cs_len) rfl T.b_len rfl ?_
                    refine sa_cons ?_ ?_
                    · exact se_var 3
                    · exact sa_nil
                  · exact se_var 4

theorem sc_are_blocks : FnScope ["blocks", "keys", "held", "block", "left", "pages", "page"] ["blocks", "keys"] (defScope s_are_blocks) := ⟨rfl, rfl, rfl, by decide +kernel, rfl, by decide +kernel, by decide +kernel⟩
def g_are_blocks : FS := (gSeq (gIf (eOr (eNot (eIsi "list" (eVar 0))) (eNot (eChain (dCmp fun i j => decide (i ≤ j)) (dCmp fun i j => decide (i ≤ j)) (eC (.int 1)) (eArgs bLen [(eVar 0)]) (eC (.int 9))))) (gRet (eC (.bl false))) gNext)
    (gSeq (gIf (eNot (eArgs bAll [(eLc (fiSeq (eVar 0)) (tName 3) (eC (.bl true)) (eArgs m_is_block [(eVar 3), (eVar 1)]) [3])])) (gRet (eC (.bl false))) gNext)
    (gSeq (gIf (eArgs bAny [(eLc (fiSeq (eVar 0)) (tTup [(tName 4), (tName 5)]) (eC (.bl true)) (eBin dNe (eArgs bLen [(eVar 5)]) (eArgs bLen [(eBin dIx (eBin dIx (eVar 0) (eC (.int 0))) (eC (.int 1)))])) [4, 5])]) (gRet (eC (.bl false))) gNext)
    (gSeq (gSet 2 (eLc2 (fiSeq (eVar 0)) (tTup [(tName 4), (tName 5)]) (eC (.bl true)) (fiSeq (eVar 5)) (tName 6) (eNot (eIsi "str" (eVar 6))) (eVar 6) [4, 5, 6] [6]))
    (gRet (eBin dEq (eArgs bLen [(eVar 2)]) (eLenSet (eVar 2))))))))
def m_are_blocks : FF := runB 7 g_are_blocks
theorem ok_are_blocks (T : Txt K mg) : OkF P w K mg base 4 T.f_are_blocks.f T.f_are_blocks.fd ["blocks", "keys"] m_are_blocks := by
  refine @okS P w K mg base "are_blocks" "are_blocks" s_are_blocks T.f_are_blocks.f T.f_are_blocks.fd ["blocks", "keys", "held", "block", "left", "pages", "page"] ["blocks", "keys"]  3 g_are_blocks T.f_are_blocks.fn sc_are_blocks ?_
  intro cdv A outer s H E hr tk PO
  unfold g_are_blocks
  refine sss_cons ?_ ?_
  · refine ss_if ?_ ?_ ?_
    · refine SW.st ?_
      refine sw_or ?_ ?_
      · refine st_not ?_
        refine st_val ?_
        refine se_isi ?_ rfl T.b_isinstance rfl rfl T.b_list rfl
        exact se_var 0
      · refine sw_or1 ?_
        refine st_not ?_
        refine st_chain op_le op_le os_cmp os_cmp ?_ ?_ ?_
        · exact se_int
        · refine se_callB (call_len) (cs_len) rfl T.b_len rfl ?_
          refine sa_cons ?_ ?_
          · exact se_var 0
          · exact sa_nil
        · exact se_gint (t := T.c_MOST_BLOCKS.choose) rfl T.c_MOST_BLOCKS.choose_spec
    · refine sss_one ?_
      refine ss_ret ?_
      exact se_bl
    · exact sss_nil
  · refine sss_cons ?_ ?_
    · refine ss_if ?_ ?_ ?_
      · refine st_not ?_
        refine st_val ?_
        refine se_callB (cr_all rfl) (cs_quant _) rfl T.b_all rfl ?_
        refine sa_cons ?_ ?_
        · refine se_lc (own := [("block", 3)]) (vs := [3]) (wk := false) rfl sc_are_blocks.nd ?_ (show BlkOk ["blocks", "keys", "held", "block", "left", "pages", "page"] (defScope s_are_blocks) _ _ from ⟨rfl, by decide +kernel, by decide +kernel, by decide +kernel, by decide +kernel⟩) (fun _ _ _ _ _ => ?_) (fun _ _ _ _ _ => ?_) (fun _ _ _ _ _ => ?_)
          · refine si_seq ?_
            exact se_var 0
          · exact sg_name sc_are_blocks.nd rfl (by first | exact Or.inl rfl | exact Or.inr rfl)
          · exact sts_nil
          · refine se_callA T.f_is_block (ok_is_block T) takesW0 (hr.mono (by decide)) rfl ?_
            refine sa_cons ?_ ?_
            · exact se_var 3
            · refine sa_cons ?_ ?_
              · exact se_var 1
              · exact sa_nil
        · exact sa_nil
      · refine sss_one ?_
        refine ss_ret ?_
        exact se_bl
      · exact sss_nil
    · refine sss_cons ?_ ?_
      · refine ss_if ?_ ?_ ?_
        · refine st_val ?_
          refine se_callB (cr_any rfl) (cs_quant _) rfl T.b_any rfl ?_
          refine sa_cons ?_ ?_
          · refine se_lc (own := [("left", 4), ("pages", 5)]) (vs := [4, 5]) (wk := false) rfl sc_are_blocks.nd ?_ (show BlkOk ["blocks", "keys", "held", "block", "left", "pages", "page"] (defScope s_are_blocks) _ _ from ⟨rfl, by decide +kernel, by decide +kernel, by decide +kernel, by decide +kernel⟩) (fun _ _ _ _ _ => ?_) (fun _ _ _ _ _ => ?_) (fun _ _ _ _ _ => ?_)
            · refine si_seq ?_
              exact se_var 0
            · refine sg_tup rfl ?_
              refine sgs_cons (vs := [4]) (ws := [5]) ?_ ?_
              · exact sg_name sc_are_blocks.nd rfl (by first | exact Or.inl rfl | exact Or.inr rfl)
              · refine sgs_cons (vs := [5]) (ws := []) ?_ ?_
                · exact sg_name sc_are_blocks.nd rfl (by first | exact Or.inl rfl | exact Or.inr rfl)
                · exact sgs_nil
            · exact sts_nil
            · refine se_cmp (op_ne2 hr.units) os_ne ?_ ?_ (nomark _)
              · refine se_callB (call_len) (cs_len) rfl T.b_len rfl ?_
                refine sa_cons ?_ ?_
                · exact se_var 5
                · exact sa_nil
              · refine se_callB (call_len) (cs_len) rfl T.b_len rfl ?_
                refine sa_cons ?_ ?_
                · refine se_ix ?_ ?_
                  · refine se_ix ?_ ?_
                    · exact se_var 0
                    · exact se_int
                  · exact se_int
                · exact sa_nil
          · exact sa_nil
        · refine sss_one ?_
          refine ss_ret ?_
          exact se_bl
        · exact sss_nil
      · refine sss_cons ?_ ?_
        · refine ss_setLc2 (own := [("left", 4), ("pages", 5), ("page", 6)]) (vs := [4, 5]) (ws := [6]) (vs1 := [6]) (wk := false) (wk1 := false) rfl sc_are_blocks.nd rfl rfl rfl ?_ (show BlkOk ["blocks", "keys", "held", "block", "left", "pages", "page"] (defScope s_are_blocks) _ _ from ⟨rfl, by decide +kernel, by decide +kernel, by decide +kernel, by decide +kernel⟩) (fun _ _ _ _ _ => ?_) (fun _ _ _ _ _ => ?_) (fun _ _ _ _ _ => ?_) (fun _ _ _ _ _ => ?_) (fun _ _ _ _ _ => ?_) (fun _ _ _ _ _ => ?_)
          · refine si_seq ?_
            exact se_var 0
          · refine sg_tup rfl ?_
            refine sgs_cons (vs := [4]) (ws := [5]) ?_ ?_
            · exact sg_name sc_are_blocks.nd rfl (by first | exact Or.inl rfl | exact Or.inr rfl)
            · refine sgs_cons (vs := [5]) (ws := []) ?_ ?_
              · exact sg_name sc_are_blocks.nd rfl (by first | exact Or.inl rfl | exact Or.inr rfl)
              · exact sgs_nil
          · exact sts_nil
          · refine si_seq ?_
            exact se_var 5
          · exact sg_name sc_are_blocks.nd rfl (by first | exact Or.inl rfl | exact Or.inr rfl)
          · refine sts_one ?_
            refine st_not ?_
            refine st_val ?_
            refine se_isi ?_ rfl T.b_isinstance rfl rfl T.b_str rfl
            exact se_var 6
          · exact se_var 6
        · refine sss_one ?_
          refine ss_ret ?_
          refine se_cmp (op_eq2 hr.units) os_eq ?_ ?_ (nomark _)
          · refine se_callB (call_len) (cs_len) rfl T.b_len rfl ?_
            refine sa_cons ?_ ?_
            · exact se_var 2
            · exact sa_nil
          · refine se_lenSet rfl T.b_len rfl T.b_set rfl ?_
            exact se_var 2

theorem sc_wrong_part : FnScope ["keys", "blocks", "fails", "cuts", "asked"] ["keys", "blocks", "fails", "cuts", "asked"] (defScope s_wrong_part) := ⟨rfl, rfl, rfl, by decide +kernel, rfl, by decide +kernel, by decide +kernel⟩
def g_wrong_part : FS := (gSeq (gIf (eNot (eArgs m_is_whole [(eVar 0), (eC (.int 1)), (eC (.int 9))])) (gRet (eC (.str "keys"))) gNext)
    (gSeq (gIf (eNot (eArgs m_are_blocks [(eVar 1), (eVar 0)])) (gRet (eC (.str "blocks"))) gNext)
    (gSeq (gIf (eNot (eArgs m_is_whole [(eVar 2), (eC (.int 0)), (eC (.int 9))])) (gRet (eC (.str "fails"))) gNext)
    (gSeq (gIf (eNot (eArgs m_is_whole [(eVar 3), (eC (.int 0)), (eC (.int 9))])) (gRet (eC (.str "cuts"))) gNext)
    (gSeq (gIf (eAnd (eBin dIsNot (eVar 4) (eC .non)) (eNot (eArgs m_is_key [(eVar 4), (eVar 0)]))) (gRet (eC (.str "asked"))) gNext)
    (gRet (eC .non)))))))
def m_wrong_part : FF := runB 5 g_wrong_part
theorem ok_wrong_part (T : Txt K mg) : OkF P w K mg base 5 T.f_wrong_part.f T.f_wrong_part.fd ["keys", "blocks", "fails", "cuts", "asked"] m_wrong_part := by
  refine @okS P w K mg base "wrong_part" "wrong_part" s_wrong_part T.f_wrong_part.f T.f_wrong_part.fd ["keys", "blocks", "fails", "cuts", "asked"] ["keys", "blocks", "fails", "cuts", "asked"]  4 g_wrong_part T.f_wrong_part.fn sc_wrong_part ?_
  intro cdv A outer s H E hr tk PO
  unfold g_wrong_part
  refine sss_cons ?_ ?_
  · refine ss_if ?_ ?_ ?_
    · refine st_not ?_
      refine st_val ?_
      refine se_callA T.f_is_whole (ok_is_whole T) tk (hr.mono (by decide)) rfl ?_
      refine sa_cons ?_ ?_
      · exact se_var 0
      · refine sa_cons ?_ ?_
        · exact se_int
        · refine sa_cons ?_ ?_
          · exact se_gint (t := T.c_MOST_KEYS.choose) rfl T.c_MOST_KEYS.choose_spec
          · exact sa_nil
    · refine sss_one ?_
      refine ss_ret ?_
      exact se_str
    · exact sss_nil
  · refine sss_cons ?_ ?_
    · refine ss_if ?_ ?_ ?_
      · refine st_not ?_
        refine st_val ?_
        refine se_callA T.f_are_blocks (ok_are_blocks T) tk (hr.mono (by decide)) rfl ?_
        refine sa_cons ?_ ?_
        · exact se_var 1
        · refine sa_cons ?_ ?_
          · exact se_var 0
          · exact sa_nil
      · refine sss_one ?_
        refine ss_ret ?_
        exact se_str
      · exact sss_nil
    · refine sss_cons ?_ ?_
      · refine ss_if ?_ ?_ ?_
        · refine st_not ?_
          refine st_val ?_
          refine se_callA T.f_is_whole (ok_is_whole T) tk (hr.mono (by decide)) rfl ?_
          refine sa_cons ?_ ?_
          · exact se_var 2
          · refine sa_cons ?_ ?_
            · exact se_int
            · refine sa_cons ?_ ?_
              · exact se_gint (t := T.c_MOST_LOSSES.choose) rfl T.c_MOST_LOSSES.choose_spec
              · exact sa_nil
        · refine sss_one ?_
          refine ss_ret ?_
          exact se_str
        · exact sss_nil
      · refine sss_cons ?_ ?_
        · refine ss_if ?_ ?_ ?_
          · refine st_not ?_
            refine st_val ?_
            refine se_callA T.f_is_whole (ok_is_whole T) tk (hr.mono (by decide)) rfl ?_
            refine sa_cons ?_ ?_
            · exact se_var 3
            · refine sa_cons ?_ ?_
              · exact se_int
              · refine sa_cons ?_ ?_
                · exact se_gint (t := T.c_MOST_LOSSES.choose) rfl T.c_MOST_LOSSES.choose_spec
                · exact sa_nil
          · refine sss_one ?_
            refine ss_ret ?_
            exact se_str
          · exact sss_nil
        · refine sss_cons ?_ ?_
          · refine ss_if ?_ ?_ ?_
            · refine SW.st ?_
              refine sw_and ?_ ?_
              · refine st_cmp op_isNot3 os_isNot ?_ ?_ (nomark _)
                · exact se_var 4
                · exact se_non
              · refine sw_and1 ?_
                refine st_not ?_
                refine st_val ?_
                refine se_callA T.f_is_key (ok_is_key T) tk (hr.mono (by decide)) rfl ?_
                refine sa_cons ?_ ?_
                · exact se_var 4
                · refine sa_cons ?_ ?_
                  · exact se_var 0
                  · exact sa_nil
            · refine sss_one ?_
              refine ss_ret ?_
              exact se_str
            · exact sss_nil
          · refine sss_one ?_
            refine ss_ret ?_
            exact se_non

theorem sc_Stand_init : FnScope ["self", "keys", "blocks", "fails", "cuts", "asked", "part"] ["self", "keys", "blocks", "fails", "cuts", "asked"] (defScope s_Stand_init) := ⟨rfl, rfl, rfl, by decide +kernel, rfl, by decide +kernel, by decide +kernel⟩
def g_Stand_init : FS := (gSeq (gSet 6 (eArgs m_wrong_part [(eVar 1), (eVar 2), (eVar 3), (eVar 4), (eVar 5)]))
    (gSeq (gIf (eBin dIsNot (eVar 6) (eC .non)) gBad gNext)
    (gPut "Stand" "_shape" (eVar 0) (eTup [(eVar 1), (eArgs bTuple [(eVar 2)]), (eVar 3), (eVar 4), (eVar 5)]))))
def m_Stand_init : FF := runB 7 g_Stand_init
theorem ok_Stand_init (T : Txt K mg) : OkF P w K mg base 6 T.f_Stand_init.f T.f_Stand_init.fd ["self", "keys", "blocks", "fails", "cuts", "asked"] m_Stand_init := by
  refine @okS P w K mg base "__init__" "Stand.__init__" s_Stand_init T.f_Stand_init.f T.f_Stand_init.fd ["self", "keys", "blocks", "fails", "cuts", "asked", "part"] ["self", "keys", "blocks", "fails", "cuts", "asked"]  5 g_Stand_init T.f_Stand_init.fn sc_Stand_init ?_
  intro cdv A outer s H E hr tk PO
  unfold g_Stand_init
  refine sss_cons ?_ ?_
  · refine ss_set sc_Stand_init.nd rfl (by first | exact Or.inl rfl | exact Or.inr rfl) ?_
    refine se_callA T.f_wrong_part (ok_wrong_part T) tk (hr.mono (by decide)) rfl ?_
    refine sa_cons ?_ ?_
    · exact se_var 1
    · refine sa_cons ?_ ?_
      · exact se_var 2
      · refine sa_cons ?_ ?_
        · exact se_var 3
        · refine sa_cons ?_ ?_
          · exact se_var 4
          · refine sa_cons ?_ ?_
            · exact se_var 5
            · exact sa_nil
  · refine sss_cons ?_ ?_
    · refine ss_if ?_ ?_ ?_
      · refine st_cmp op_isNot3 os_isNot ?_ ?_ (nomark _)
        · exact se_var 6
        · exact se_non
      · refine sss_one ?_
        exact ss_bad
      · exact sss_nil
    · refine sss_one ?_
      refine ss_put T.k_Stand.g T.k_Stand.cl T.na_Stand__shape ?_ ?_
      · exact se_var 0
      · refine se_tup ?_
        refine sa_cons ?_ ?_
        · exact se_var 1
        · refine sa_cons ?_ ?_
          · refine se_callTy (call_tuple_ofF) (cs_tuple) rfl T.b_tuple rfl ?_
            refine sa_cons ?_ ?_
            · exact se_var 2
            · exact sa_nil
          · refine sa_cons ?_ ?_
            · exact se_var 3
            · refine sa_cons ?_ ?_
              · exact se_var 4
              · refine sa_cons ?_ ?_
                · exact se_var 5
                · exact sa_nil

theorem sc__law_stand : FnScope ["shape"] ["shape"] (defScope s__law_stand) := ⟨rfl, rfl, rfl, by decide +kernel, rfl, by decide +kernel, by decide +kernel⟩
def g__law_stand : FS := (gRet (eMake "Stand" m_Stand_init [(eBin dIx (eVar 0) (eC (.int 0))), (eArgs bList [(eBin dIx (eVar 0) (eC (.int 1)))]), (eBin dIx (eVar 0) (eC (.int 2))), (eBin dIx (eVar 0) (eC (.int 3)))] [(eBin dIx (eVar 0) (eC (.int 4)))]))
def m__law_stand : FF := runB 1 g__law_stand
theorem ok__law_stand (T : Txt K mg) : OkF P w K mg base 8 T.f__law_stand.f T.f__law_stand.fd ["shape"] m__law_stand := by
  refine @okS P w K mg base "_law_stand" "_law_stand" s__law_stand T.f__law_stand.f T.f__law_stand.fd ["shape"] ["shape"]  7 g__law_stand T.f__law_stand.fn sc__law_stand ?_
  intro cdv A outer s H E hr tk PO
  unfold g__law_stand
  refine sss_one ?_
  refine ss_ret ?_
  refine se_makeA T.f_Stand_init (ok_Stand_init T) tk (hr.mono (by decide)) rfl ?_ ?_
  · refine sa_cons ?_ ?_
    · refine se_ix ?_ ?_
      · exact se_var 0
      · exact se_int
    · refine sa_cons ?_ ?_
      · refine se_callTy (call_list_of) (cs_list) rfl T.b_list rfl ?_
        refine sa_cons ?_ ?_
        · refine se_ix ?_ ?_
          · exact se_var 0
          · exact se_int
        · exact sa_nil
      · refine sa_cons ?_ ?_
        · refine se_ix ?_ ?_
          · exact se_var 0
          · exact se_int
        · refine sa_cons ?_ ?_
          · refine se_ix ?_ ?_
            · exact se_var 0
            · exact se_int
          · exact sa_nil
  · refine sk_cons ?_ ?_
    · refine se_ix ?_ ?_
      · exact se_var 0
      · exact se_int
    · exact sk_nil

theorem sc__law_order : FnScope ["cell", "size", "digits", "rest", "k", "digit"] ["cell", "size"] (defScope s__law_order) := ⟨rfl, rfl, rfl, by decide +kernel, rfl, by decide +kernel, by decide +kernel⟩
def g__law_order : FS := (gSeq (gSet 2 (eArgs m__law_digits [(eVar 0), (eLc (fiRg [(eVar 1)]) (tName 4) (eC (.bl true)) (eBin dSub (eVar 1) (eVar 4)) [4])]))
    (gSeq (gSet 3 (eListRg (eVar 1)))
    (gRet (eArgs bTuple [(eLc (fiSeq (eVar 2)) (tName 5) (eC (.bl true)) (eLm lPopAt (eVar 3) [(eVar 5)]) [5])]))))
def m__law_order : FF := runB 6 g__law_order
theorem ok__law_order (T : Txt K mg) : OkF P w K mg base 3 T.f__law_order.f T.f__law_order.fd ["cell", "size"] m__law_order := by
  refine @okS P w K mg base "_law_order" "_law_order" s__law_order T.f__law_order.f T.f__law_order.fd ["cell", "size", "digits", "rest", "k", "digit"] ["cell", "size"]  2 g__law_order T.f__law_order.fn sc__law_order ?_
  intro cdv A outer s H E hr tk PO
  unfold g__law_order
  refine sss_cons ?_ ?_
  · refine ss_set sc__law_order.nd rfl (by first | exact Or.inl rfl | exact Or.inr rfl) ?_
    refine se_callA T.f__law_digits (ok__law_digits T) tk (hr.mono (by decide)) rfl ?_
    refine sa_cons ?_ ?_
    · exact se_var 0
    · refine sa_cons ?_ ?_
      · refine se_lc (own := [("k", 4)]) (vs := [4]) (wk := false) rfl sc__law_order.nd ?_ (show BlkOk ["cell", "size", "digits", "rest", "k", "digit"] (defScope s__law_order) _ _ from ⟨rfl, by decide +kernel, by decide +kernel, by decide +kernel, by decide +kernel⟩) (fun _ _ _ _ _ => ?_) (fun _ _ _ _ _ => ?_) (fun _ _ _ _ _ => ?_)
        · refine si_rg1 rfl T.b_range ?_
          refine sa_cons ?_ ?_
          · exact se_var 1
          · exact sa_nil
        · exact sg_name sc__law_order.nd rfl (by first | exact Or.inl rfl | exact Or.inr rfl)
        · exact sts_nil
        · refine se_op op_sub os_sub ?_ ?_
          · exact se_var 1
          · exact se_var 4
      · exact sa_nil
  · refine sss_cons ?_ ?_
    · refine ss_set sc__law_order.nd rfl (by first | exact Or.inl rfl | exact Or.inr rfl) ?_
      refine se_listRg rfl rfl T.b_list rfl T.b_range ?_
      exact se_var 1
    · refine sss_one ?_
      refine ss_ret ?_
      refine se_callTy (call_tuple_ofF) (cs_tuple) rfl T.b_tuple rfl ?_
      refine sa_cons ?_ ?_
      · refine se_lc (own := [("digit", 5)]) (vs := [5]) (wk := false) rfl sc__law_order.nd ?_ (show BlkOk ["cell", "size", "digits", "rest", "k", "digit"] (defScope s__law_order) _ _ from ⟨rfl, by decide +kernel, by decide +kernel, by decide +kernel, by decide +kernel⟩) (fun _ _ _ _ _ => ?_) (fun _ _ _ _ _ => ?_) (fun _ _ _ _ _ => ?_)
        · refine si_seq ?_
          exact se_var 2
        · exact sg_name sc__law_order.nd rfl (by first | exact Or.inl rfl | exact Or.inr rfl)
        · exact sts_nil
        · refine se_lm PySem.F.plainAttrs_list PySem.F.slot_list_pop PySem.F.type_list_pop mt_popAt ls_popAt ?_ ?_
          · exact se_var 3
          · refine sa_cons ?_ ?_
            · exact se_var 5
            · exact sa_nil
      · exact sa_nil

theorem sc_Stand_shape : FnScope ["self"] ["self"] (defScope s_Stand_shape) := ⟨rfl, rfl, rfl, by decide +kernel, rfl, by decide +kernel, by decide +kernel⟩
def g_Stand_shape : FS := (gRet (eFld "Stand" "_shape" (eVar 0)))
def m_Stand_shape : FF := runB 1 g_Stand_shape
theorem ok_Stand_shape (T : Txt K mg) : OkF P w K mg base 1 T.f_Stand_shape.f T.f_Stand_shape.fd ["self"] m_Stand_shape := by
  refine @okS P w K mg base "shape" "Stand.shape" s_Stand_shape T.f_Stand_shape.f T.f_Stand_shape.fd ["self"] ["self"]  0 g_Stand_shape T.f_Stand_shape.fn sc_Stand_shape ?_
  intro cdv A outer s H E hr tk PO
  unfold g_Stand_shape
  refine sss_one ?_
  refine ss_ret ?_
  refine se_fld ?_ T.k_Stand.g T.k_Stand.cl T.na_Stand__shape
  exact se_var 0

theorem sc_Stand_blocks : FnScope ["self"] ["self"] (defScope s_Stand_blocks) := ⟨rfl, rfl, rfl, by decide +kernel, rfl, by decide +kernel, by decide +kernel⟩
def g_Stand_blocks : FS := (gRet (eArgs bList [(eBin dIx (eFld "Stand" "_shape" (eVar 0)) (eC (.int 1)))]))
def m_Stand_blocks : FF := runB 1 g_Stand_blocks
theorem ok_Stand_blocks (T : Txt K mg) : OkF P w K mg base 1 T.f_Stand_blocks.f T.f_Stand_blocks.fd ["self"] m_Stand_blocks := by
  refine @okS P w K mg base "blocks" "Stand.blocks" s_Stand_blocks T.f_Stand_blocks.f T.f_Stand_blocks.fd ["self"] ["self"]  0 g_Stand_blocks T.f_Stand_blocks.fn sc_Stand_blocks ?_
  intro cdv A outer s H E hr tk PO
  unfold g_Stand_blocks
  refine sss_one ?_
  refine ss_ret ?_
  refine se_callTy (call_list_of) (cs_list) rfl T.b_list rfl ?_
  refine sa_cons ?_ ?_
  · refine se_ix ?_ ?_
    · refine se_fld ?_ T.k_Stand.g T.k_Stand.cl T.na_Stand__shape
      exact se_var 0
    · exact se_int
  · exact sa_nil

theorem sc_is_count : FnScope ["thing"] ["thing"] (defScope s_is_count) := ⟨rfl, rfl, rfl, by decide +kernel, rfl, by decide +kernel, by decide +kernel⟩
def g_is_count : FS := (gRet (eAnd (eIsi "int" (eVar 0)) (eAnd (eNot (eIsi "bool" (eVar 0))) (eBin (dCmp fun i j => decide (j ≤ i)) (eVar 0) (eC (.int 0))))))
def m_is_count : FF := runB 1 g_is_count
theorem ok_is_count (T : Txt K mg) : OkF P w K mg base 1 T.f_is_count.f T.f_is_count.fd ["thing"] m_is_count := by
  refine @okS P w K mg base "is_count" "is_count" s_is_count T.f_is_count.f T.f_is_count.fd ["thing"] ["thing"]  0 g_is_count T.f_is_count.fn sc_is_count ?_
  intro cdv A outer s H E hr tk PO
  unfold g_is_count
  refine sss_one ?_
  refine ss_ret ?_
  refine se_and ?_ ?_
  · refine se_isi ?_ rfl T.b_isinstance rfl rfl T.b_int rfl
    exact se_var 0
  · refine se_and ?_ ?_
    · refine se_not ?_
      refine se_isi ?_ rfl T.b_isinstance rfl rfl T.b_bool rfl
      exact se_var 0
    · refine se_one ?_
      refine se_cmp op_ge os_cmp ?_ ?_ (nomark _)
      · exact se_var 0
      · exact se_int

theorem sc_is_order : FnScope ["order", "many", "number"] ["order", "many"] (defScope s_is_order) := ⟨rfl, rfl, rfl, by decide +kernel, rfl, by decide +kernel, by decide +kernel⟩
def g_is_order : FS := (gSeq (gIf (eOr (eNot (eIsi "tuple" (eVar 0))) (eNot (eArgs bAll [(eLc (fiSeq (eVar 0)) (tName 2) (eC (.bl true)) (eArgs m_is_count [(eVar 2)]) [2])]))) (gRet (eC (.bl false))) gNext)
    (gRet (eBin dEq (eArgs bSortI [(eVar 0)]) (eListRg (eVar 1)))))
def m_is_order : FF := runB 3 g_is_order
theorem ok_is_order (T : Txt K mg) : OkF P w K mg base 2 T.f_is_order.f T.f_is_order.fd ["order", "many"] m_is_order := by
  refine @okS P w K mg base "is_order" "is_order" s_is_order T.f_is_order.f T.f_is_order.fd ["order", "many", "number"] ["order", "many"]  1 g_is_order T.f_is_order.fn sc_is_order ?_
  intro cdv A outer s H E hr tk PO
  unfold g_is_order
  refine sss_cons ?_ ?_
  · refine ss_if ?_ ?_ ?_
    · refine SW.st ?_
      refine sw_or ?_ ?_
      · refine st_not ?_
        refine st_val ?_
        refine se_isi ?_ rfl T.b_isinstance rfl rfl T.b_tuple rfl
        exact se_var 0
      · refine sw_or1 ?_
        refine st_not ?_
        refine st_val ?_
        refine se_callB (cr_all rfl) (cs_quant _) rfl T.b_all rfl ?_
        refine sa_cons ?_ ?_
        · refine se_lc (own := [("number", 2)]) (vs := [2]) (wk := false) rfl sc_is_order.nd ?_ (show BlkOk ["order", "many", "number"] (defScope s_is_order) _ _ from ⟨rfl, by decide +kernel, by decide +kernel, by decide +kernel, by decide +kernel⟩) (fun _ _ _ _ _ => ?_) (fun _ _ _ _ _ => ?_) (fun _ _ _ _ _ => ?_)
          · refine si_seq ?_
            exact se_var 0
          · exact sg_name sc_is_order.nd rfl (by first | exact Or.inl rfl | exact Or.inr rfl)
          · exact sts_nil
          · refine se_callA T.f_is_count (ok_is_count T) takesW0 (hr.mono (by decide)) rfl ?_
            refine sa_cons ?_ ?_
            · exact se_var 2
            · exact sa_nil
        · exact sa_nil
    · refine sss_one ?_
      refine ss_ret ?_
      exact se_bl
    · exact sss_nil
  · refine sss_one ?_
    refine ss_ret ?_
    refine se_cmp (op_eq2 hr.units) os_eq ?_ ?_ (nomark _)
    · refine se_callB (cr_sortTI) (cs_sortI) rfl T.b_sorted rfl ?_
      refine sa_cons ?_ ?_
      · exact se_var 0
      · exact sa_nil
    · refine se_listRg rfl rfl T.b_list rfl T.b_range ?_
      exact se_var 1

theorem sc_Stand_many : FnScope ["self"] ["self"] (defScope s_Stand_many) := ⟨rfl, rfl, rfl, by decide +kernel, rfl, by decide +kernel, by decide +kernel⟩
def g_Stand_many : FS := (gRet (eBin dIx (eFld "Stand" "_shape" (eVar 0)) (eC (.int 0))))
def m_Stand_many : FF := runB 1 g_Stand_many
theorem ok_Stand_many (T : Txt K mg) : OkF P w K mg base 1 T.f_Stand_many.f T.f_Stand_many.fd ["self"] m_Stand_many := by
  refine @okS P w K mg base "many" "Stand.many" s_Stand_many T.f_Stand_many.f T.f_Stand_many.fd ["self"] ["self"]  0 g_Stand_many T.f_Stand_many.fn sc_Stand_many ?_
  intro cdv A outer s H E hr tk PO
  unfold g_Stand_many
  refine sss_one ?_
  refine ss_ret ?_
  refine se_ix ?_ ?_
  · refine se_fld ?_ T.k_Stand.g T.k_Stand.cl T.na_Stand__shape
    exact se_var 0
  · exact se_int

theorem sc_Stand_fails : FnScope ["self"] ["self"] (defScope s_Stand_fails) := ⟨rfl, rfl, rfl, by decide +kernel, rfl, by decide +kernel, by decide +kernel⟩
def g_Stand_fails : FS := (gRet (eBin dIx (eFld "Stand" "_shape" (eVar 0)) (eC (.int 2))))
def m_Stand_fails : FF := runB 1 g_Stand_fails
theorem ok_Stand_fails (T : Txt K mg) : OkF P w K mg base 1 T.f_Stand_fails.f T.f_Stand_fails.fd ["self"] m_Stand_fails := by
  refine @okS P w K mg base "fails" "Stand.fails" s_Stand_fails T.f_Stand_fails.f T.f_Stand_fails.fd ["self"] ["self"]  0 g_Stand_fails T.f_Stand_fails.fn sc_Stand_fails ?_
  intro cdv A outer s H E hr tk PO
  unfold g_Stand_fails
  refine sss_one ?_
  refine ss_ret ?_
  refine se_ix ?_ ?_
  · refine se_fld ?_ T.k_Stand.g T.k_Stand.cl T.na_Stand__shape
    exact se_var 0
  · exact se_int

theorem sc_Stand_cuts : FnScope ["self"] ["self"] (defScope s_Stand_cuts) := ⟨rfl, rfl, rfl, by decide +kernel, rfl, by decide +kernel, by decide +kernel⟩
def g_Stand_cuts : FS := (gRet (eBin dIx (eFld "Stand" "_shape" (eVar 0)) (eC (.int 3))))
def m_Stand_cuts : FF := runB 1 g_Stand_cuts
theorem ok_Stand_cuts (T : Txt K mg) : OkF P w K mg base 1 T.f_Stand_cuts.f T.f_Stand_cuts.fd ["self"] m_Stand_cuts := by
  refine @okS P w K mg base "cuts" "Stand.cuts" s_Stand_cuts T.f_Stand_cuts.f T.f_Stand_cuts.fd ["self"] ["self"]  0 g_Stand_cuts T.f_Stand_cuts.fn sc_Stand_cuts ?_
  intro cdv A outer s H E hr tk PO
  unfold g_Stand_cuts
  refine sss_one ?_
  refine ss_ret ?_
  refine se_ix ?_ ?_
  · refine se_fld ?_ T.k_Stand.g T.k_Stand.cl T.na_Stand__shape
    exact se_var 0
  · exact se_int

theorem sc_Stand_asked : FnScope ["self"] ["self"] (defScope s_Stand_asked) := ⟨rfl, rfl, rfl, by decide +kernel, rfl, by decide +kernel, by decide +kernel⟩
def g_Stand_asked : FS := (gRet (eBin dIx (eFld "Stand" "_shape" (eVar 0)) (eC (.int 4))))
def m_Stand_asked : FF := runB 1 g_Stand_asked
theorem ok_Stand_asked (T : Txt K mg) : OkF P w K mg base 1 T.f_Stand_asked.f T.f_Stand_asked.fd ["self"] m_Stand_asked := by
  refine @okS P w K mg base "asked" "Stand.asked" s_Stand_asked T.f_Stand_asked.f T.f_Stand_asked.fd ["self"] ["self"]  0 g_Stand_asked T.f_Stand_asked.fn sc_Stand_asked ?_
  intro cdv A outer s H E hr tk PO
  unfold g_Stand_asked
  refine sss_one ?_
  refine ss_ret ?_
  refine se_ix ?_ ?_
  · refine se_fld ?_ T.k_Stand.g T.k_Stand.cl T.na_Stand__shape
    exact se_var 0
  · exact se_int

theorem sc_renamed : FnScope ["stand", "blocks", "keys", "rows", "numbers", "moved", "number", "key", "b", "page"] ["stand", "blocks", "keys"] (defScope s_renamed) := ⟨rfl, rfl, rfl, by decide +kernel, rfl, by decide +kernel, by decide +kernel⟩
def g_renamed : FS := (gSeq (gSet 3 (eMeth "Stand" "blocks" m_Stand_blocks (eVar 0) []))
    (gSeq (gIf (eNot (eArgs m_is_order [(eVar 1), (eArgs bLen [(eVar 3)])])) (gRaiseF "NoNames" "part" (eC (.str "blocks"))) gNext)
    (gSeq (gIf (eNot (eArgs m_is_order [(eVar 2), (eMeth "Stand" "many" m_Stand_many (eVar 0) [])])) (gRaiseF "NoNames" "part" (eC (.str "keys"))) gNext)
    (gSeq (gSet 4 (eDc (fiEn (eVar 2)) (tTup [(tName 6), (tName 7)]) (eC (.bl true)) (eVar 7) (eVar 6) [6, 7]))
    (gSeq (gSet 5 (eLc (fiSeq (eVar 1)) (tName 8) (eC (.bl true)) (eTup [(eBin dIx (eBin dIx (eVar 3) (eVar 8)) (eC (.int 0))), (eArgs bTuple [(eLc (fiSeq (eBin dIx (eBin dIx (eVar 3) (eVar 8)) (eC (.int 1)))) (tName 9) (eC (.bl true)) (eDget2 (eVar 4) (eVar 9) (eVar 9)) [9])])]) [8]))
    (gRet (eMake "Stand" m_Stand_init [(eMeth "Stand" "many" m_Stand_many (eVar 0) []), (eVar 5), (eMeth "Stand" "fails" m_Stand_fails (eVar 0) []), (eMeth "Stand" "cuts" m_Stand_cuts (eVar 0) [])] [(eDget1N (eVar 4) (eMeth "Stand" "asked" m_Stand_asked (eVar 0) []))])))))))
def m_renamed : FF := runB 10 g_renamed
theorem ok_renamed (T : Txt K mg) : OkF P w K mg base 8 T.f_renamed.f T.f_renamed.fd ["stand", "blocks", "keys"] m_renamed := by
  refine @okS P w K mg base "renamed" "renamed" s_renamed T.f_renamed.f T.f_renamed.fd ["stand", "blocks", "keys", "rows", "numbers", "moved", "number", "key", "b", "page"] ["stand", "blocks", "keys"]  7 g_renamed T.f_renamed.fn sc_renamed ?_
  intro cdv A outer s H E hr tk PO
  unfold g_renamed
  refine sss_cons ?_ ?_
  · refine ss_set sc_renamed.nd rfl (by first | exact Or.inl rfl | exact Or.inr rfl) ?_
    refine se_methA0 (C := T.k_Stand) T.f_Stand_blocks (ok_Stand_blocks T) tk (hr.mono (by decide)) ?_
    exact se_var 0
  · refine sss_cons ?_ ?_
    · refine ss_if ?_ ?_ ?_
      · refine st_not ?_
        refine st_val ?_
        refine se_callA T.f_is_order (ok_is_order T) tk (hr.mono (by decide)) rfl ?_
        refine sa_cons ?_ ?_
        · exact se_var 1
        · refine sa_cons ?_ ?_
          · refine se_callB (call_len) (cs_len) rfl T.b_len rfl ?_
            refine sa_cons ?_ ?_
            · exact se_var 3
            · exact sa_nil
          · exact sa_nil
      · refine sss_one ?_
        refine ss_raiseF rfl tk (FldAt.t T.q_NoNames (ok_NoNames_init T)) (hr.mono (by decide)) pass00 rfl ?_
        exact se_str
      · exact sss_nil
    · refine sss_cons ?_ ?_
      · refine ss_if ?_ ?_ ?_
        · refine st_not ?_
          refine st_val ?_
          refine se_callA T.f_is_order (ok_is_order T) tk (hr.mono (by decide)) rfl ?_
          refine sa_cons ?_ ?_
          · exact se_var 2
          · refine sa_cons ?_ ?_
            · refine se_methA0 (C := T.k_Stand) T.f_Stand_many (ok_Stand_many T) tk (hr.mono (by decide)) ?_
              exact se_var 0
            · exact sa_nil
        · refine sss_one ?_
          refine ss_raiseF rfl tk (FldAt.t T.q_NoNames (ok_NoNames_init T)) (hr.mono (by decide)) pass00 rfl ?_
          exact se_str
        · exact sss_nil
      · refine sss_cons ?_ ?_
        · refine ss_set sc_renamed.nd rfl (by first | exact Or.inl rfl | exact Or.inr rfl) ?_
          refine se_dc (own := [("number", 6), ("key", 7)]) (vs := [6, 7]) (wk := true) rfl sc_renamed.nd ?_ (show BlkOk ["stand", "blocks", "keys", "rows", "numbers", "moved", "number", "key", "b", "page"] (defScope s_renamed) _ _ from ⟨rfl, by decide +kernel, by decide +kernel, by decide +kernel, by decide +kernel⟩) (fun _ _ _ _ _ => ?_) (fun _ _ _ _ _ => ?_) (fun _ _ _ _ _ => ?_) (fun _ _ _ _ _ => ?_)
          · refine si_enum rfl T.b_enumerate ?_
            exact se_var 2
          · refine sg_tup rfl ?_
            refine sgs_cons (vs := [6]) (ws := [7]) ?_ ?_
            · exact sg_name sc_renamed.nd rfl (by first | exact Or.inl rfl | exact Or.inr rfl)
            · refine sgs_cons (vs := [7]) (ws := []) ?_ ?_
              · exact sg_name sc_renamed.nd rfl (by first | exact Or.inl rfl | exact Or.inr rfl)
              · exact sgs_nil
          · exact sts_nil
          · exact se_var 7
          · exact se_var 6
        · refine sss_cons ?_ ?_
          · refine ss_setLc (own := [("b", 8)]) (vs := [8]) (wk := false) rfl sc_renamed.nd rfl rfl rfl ?_ (show BlkOk ["stand", "blocks", "keys", "rows", "numbers", "moved", "number", "key", "b", "page"] (defScope s_renamed) _ _ from ⟨rfl, by decide +kernel, by decide +kernel, by decide +kernel, by decide +kernel⟩) (fun _ _ _ _ _ => ?_) (fun _ _ _ _ _ => ?_) (fun _ _ _ _ _ => ?_)
            · refine si_seq ?_
              exact se_var 1
            · exact sg_name sc_renamed.nd rfl (by first | exact Or.inl rfl | exact Or.inr rfl)
            · exact sts_nil
            · refine se_tup ?_
              refine sa_cons ?_ ?_
              · refine se_ix ?_ ?_
                · refine se_ix ?_ ?_
                  · exact se_var 3
                  · exact se_var 8
                · exact se_int
              · refine sa_cons ?_ ?_
                · refine se_callTy (call_tuple_ofF) (cs_tuple) rfl T.b_tuple rfl ?_
                  refine sa_cons ?_ ?_
                  · refine se_lc (own := [("page", 9)]) (vs := [9]) (wk := false) rfl sc_renamed.nd ?_ (blk_nest (N := ["stand", "blocks", "keys", "rows", "numbers", "moved", "number", "key", "b", "page"]) (defScope s_renamed) rfl ⟨rfl, by decide +kernel, by decide +kernel, by decide +kernel, by decide +kernel⟩) (fun _ _ _ _ _ => ?_) (fun _ _ _ _ _ => ?_) (fun _ _ _ _ _ => ?_)
                    · refine si_seq ?_
                      refine se_ix ?_ ?_
                      · refine se_ix ?_ ?_
                        · exact se_var 3
                        · exact se_var 8
                      · exact se_int
                    · exact sg_name sc_renamed.nd rfl (by first | exact Or.inl rfl | exact Or.inr rfl)
                    · exact sts_nil
                    · refine se_dget2 hr ?_ ?_ ?_ ⟨rfl, rfl, rfl, rfl⟩
                      · exact se_var 4
                      · exact se_var 9
                      · exact se_var 9
                  · exact sa_nil
                · exact sa_nil
          · refine sss_one ?_
            refine ss_ret ?_
            refine se_makeA T.f_Stand_init (ok_Stand_init T) tk (hr.mono (by decide)) rfl ?_ ?_
            · refine sa_cons ?_ ?_
              · refine se_methA0 (C := T.k_Stand) T.f_Stand_many (ok_Stand_many T) tk (hr.mono (by decide)) ?_
                exact se_var 0
              · refine sa_cons ?_ ?_
                · exact se_var 5
                · refine sa_cons ?_ ?_
                  · refine se_methA0 (C := T.k_Stand) T.f_Stand_fails (ok_Stand_fails T) tk (hr.mono (by decide)) ?_
                    exact se_var 0
                  · refine sa_cons ?_ ?_
                    · refine se_methA0 (C := T.k_Stand) T.f_Stand_cuts (ok_Stand_cuts T) tk (hr.mono (by decide)) ?_
                      exact se_var 0
                    · exact sa_nil
            · refine sk_cons ?_ ?_
              · refine se_dget1N hr ?_ ?_ ⟨rfl, rfl, rfl, rfl⟩
                · exact se_var 4
                · refine se_methA0 (C := T.k_Stand) T.f_Stand_asked (ok_Stand_asked T) tk (hr.mono (by decide)) ?_
                  exact se_var 0
              · exact sk_nil

theorem sc__law_told : FnScope ["stand", "blocks", "keys", "told", "e"] ["stand", "blocks", "keys"] (defScope s__law_told) := ⟨rfl, rfl, rfl, by decide +kernel, rfl, by decide +kernel, by decide +kernel⟩
def g__law_told : FS := (gSeq (gSet 3 (eC .non))
    (gSeq (gTryF [(("NoNames", "NoNames"), true)] (gSet 3 (eTup [(eC (.str "stand")), (eMeth "Stand" "shape" m_Stand_shape (eArgs m_renamed [(eVar 0), (eVar 1), (eVar 2)]) [])])) "NoNames" (gXfA 4 3 "part" (fun d => .tup [.str "no", d])))
    (gRet (eVar 3))))
def m__law_told : FF := runB 5 g__law_told
theorem ok__law_told (T : Txt K mg) : OkF P w K mg base 9 T.f__law_told.f T.f__law_told.fd ["stand", "blocks", "keys"] m__law_told := by
  refine @okS P w K mg base "_law_told" "_law_told" s__law_told T.f__law_told.f T.f__law_told.fd ["stand", "blocks", "keys", "told", "e"] ["stand", "blocks", "keys"]  8 g__law_told T.f__law_told.fn sc__law_told ?_
  intro cdv A outer s H E hr tk PO
  unfold g__law_told
  refine sss_cons ?_ ?_
  · refine ss_set sc__law_told.nd rfl (by first | exact Or.inl rfl | exact Or.inr rfl) ?_
    exact se_non
  · refine sss_cons ?_ ?_
    · refine ss_tryF2 (i := 4) (j := 3) rfl rfl sc__law_told.nd rfl rfl (by decide) rfl rfl T.q_NoNames.g tk (sub_cons T.q_NoNames.g T.q_NoNames.g T.x_NoNames_NoNames sub_nil) T.q_NoNames.xf T.q_NoNames.no (fun _ _ _ tk PO => ?_) (fun _ _ _ => pv 4) (fun _ _ _ => rfl) (fun _ _ _ _ p => ps_set sc__law_told.nd rfl (by first | exact Or.inl rfl | exact Or.inr rfl) (pe_tupF (pa_cons pe_str (pa_cons p pa_nil))))
      refine sss_one ?_
      refine ss_set sc__law_told.nd rfl (by first | exact Or.inl rfl | exact Or.inr rfl) ?_
      refine se_tup ?_
      refine sa_cons ?_ ?_
      · exact se_str
      · refine sa_cons ?_ ?_
        · refine se_methA0 (C := T.k_Stand) T.f_Stand_shape (ok_Stand_shape T) tk (hr.mono (by decide)) ?_
          refine se_callA T.f_renamed (ok_renamed T) tk (hr.mono (by decide)) rfl ?_
          refine sa_cons ?_ ?_
          · exact se_var 0
          · refine sa_cons ?_ ?_
            · exact se_var 1
            · refine sa_cons ?_ ?_
              · exact se_var 2
              · exact sa_nil
        · exact sa_nil
    · refine sss_one ?_
      refine ss_ret ?_
      exact se_var 3

theorem sc__law_renamed : FnScope ["shape", "blocks", "keys", "rows", "b", "left", "pages", "due", "page"] ["shape", "blocks", "keys"] (defScope s__law_renamed) := ⟨rfl, rfl, rfl, by decide +kernel, rfl, by decide +kernel, by decide +kernel⟩
def g__law_renamed : FS := (gSeq (gSet 3 (eLst []))
    (gSeq (gFor (fiSeq (eVar 1)) (tName 4) (gSeq (gAsg (eBin dIx (eBin dIx (eVar 0) (eC (.int 1))) (eVar 4)) (tTup [(tName 5), (tName 6)]))
    (gDrop (eLm lAppend (eVar 3) [(eTup [(eVar 5), (eArgs bTuple [(eLc (fiSeq (eVar 6)) (tName 8) (eC (.bl true)) (eIf (eIsi "str" (eVar 8)) (eVar 8) (eTm tIndex (eVar 2) [(eVar 8)])) [8])])])]))))
    (gSeq (gSet 7 (eBin dIx (eVar 0) (eC (.int 4))))
    (gSeq (gIf (eBin dIsNot (eVar 7) (eC .non)) (gSet 7 (eTm tIndex (eVar 2) [(eVar 7)])) gNext)
    (gRet (eTup [(eBin dIx (eVar 0) (eC (.int 0))), (eArgs bTuple [(eVar 3)]), (eBin dIx (eVar 0) (eC (.int 2))), (eBin dIx (eVar 0) (eC (.int 3))), (eVar 7)]))))))
def m__law_renamed : FF := runB 9 g__law_renamed
theorem ok__law_renamed (T : Txt K mg) : OkF P w K mg base 1 T.f__law_renamed.f T.f__law_renamed.fd ["shape", "blocks", "keys"] m__law_renamed := by
  refine @okS P w K mg base "_law_renamed" "_law_renamed" s__law_renamed T.f__law_renamed.f T.f__law_renamed.fd ["shape", "blocks", "keys", "rows", "b", "left", "pages", "due", "page"] ["shape", "blocks", "keys"]  0 g__law_renamed T.f__law_renamed.fn sc__law_renamed ?_
  intro cdv A outer s H E hr tk PO
  unfold g__law_renamed
  refine sss_cons ?_ ?_
  · refine ss_set sc__law_renamed.nd rfl (by first | exact Or.inl rfl | exact Or.inr rfl) ?_
    refine se_lst ?_
    exact sa_nil
  · refine sss_cons ?_ ?_
    · refine ss_for (vs := [4]) (wk := false) PO rfl ?_ ?_ ?_
      · refine si_seq ?_
        exact se_var 1
      · exact sg_name sc__law_renamed.nd rfl (by first | exact Or.inl rfl | exact Or.inr rfl)
      · refine sss_cons ?_ ?_
        · refine ss_asg (vs := [5, 6]) ?_ ?_
          · refine se_ix ?_ ?_
            · refine se_ix ?_ ?_
              · exact se_var 0
              · exact se_int
            · exact se_var 4
          · refine sg_tup rfl ?_
            refine sgs_cons (vs := [5]) (ws := [6]) ?_ ?_
            · exact sg_name sc__law_renamed.nd rfl (by first | exact Or.inl rfl | exact Or.inr rfl)
            · refine sgs_cons (vs := [6]) (ws := []) ?_ ?_
              · exact sg_name sc__law_renamed.nd rfl (by first | exact Or.inl rfl | exact Or.inr rfl)
              · exact sgs_nil
        · refine sss_one ?_
          refine ss_expr ?_
          refine se_lm PySem.F.plainAttrs_list PySem.F.slot_list_append PySem.F.type_list_append mt_append ls_append ?_ ?_
          · exact se_var 3
          · refine sa_cons ?_ ?_
            · refine se_tup ?_
              refine sa_cons ?_ ?_
              · exact se_var 5
              · refine sa_cons ?_ ?_
                · refine se_callTy (call_tuple_ofF) (cs_tuple) rfl T.b_tuple rfl ?_
                  refine sa_cons ?_ ?_
                  · refine se_lc (own := [("page", 8)]) (vs := [8]) (wk := false) rfl sc__law_renamed.nd ?_ (show BlkOk ["shape", "blocks", "keys", "rows", "b", "left", "pages", "due", "page"] (defScope s__law_renamed) _ _ from ⟨rfl, by decide +kernel, by decide +kernel, by decide +kernel, by decide +kernel⟩) (fun _ _ _ _ _ => ?_) (fun _ _ _ _ _ => ?_) (fun _ _ _ _ _ => ?_)
                    · refine si_seq ?_
                      exact se_var 6
                    · exact sg_name sc__law_renamed.nd rfl (by first | exact Or.inl rfl | exact Or.inr rfl)
                    · exact sts_nil
                    · refine se_if ?_ ?_ ?_
                      · refine st_val ?_
                        refine se_isi ?_ rfl T.b_isinstance rfl rfl T.b_str rfl
                        exact se_var 8
                      · exact se_var 8
                      · refine se_tm PySem.F.plainAttrs_tuple PySem.F.slot_tuple_index PySem.F.type_tuple_index mt_tindex ts_index ?_ ?_
                        · exact se_var 2
                        · refine sa_cons ?_ ?_
                          · exact se_var 8
                          · exact sa_nil
                  · exact sa_nil
                · exact sa_nil
            · exact sa_nil
    · refine sss_cons ?_ ?_
      · refine ss_set sc__law_renamed.nd rfl (by first | exact Or.inl rfl | exact Or.inr rfl) ?_
        refine se_ix ?_ ?_
        · exact se_var 0
        · exact se_int
      · refine sss_cons ?_ ?_
        · refine ss_if ?_ ?_ ?_
          · refine st_cmp op_isNot3 os_isNot ?_ ?_ (nomark _)
            · exact se_var 7
            · exact se_non
          · refine sss_one ?_
            refine ss_set sc__law_renamed.nd rfl (by first | exact Or.inl rfl | exact Or.inr rfl) ?_
            refine se_tm PySem.F.plainAttrs_tuple PySem.F.slot_tuple_index PySem.F.type_tuple_index mt_tindex ts_index ?_ ?_
            · exact se_var 2
            · refine sa_cons ?_ ?_
              · exact se_var 7
              · exact sa_nil
          · exact sss_nil
        · refine sss_one ?_
          refine ss_ret ?_
          refine se_tup ?_
          refine sa_cons ?_ ?_
          · refine se_ix ?_ ?_
            · exact se_var 0
            · exact se_int
          · refine sa_cons ?_ ?_
            · refine se_callTy (call_tuple_ofF) (cs_tuple) rfl T.b_tuple rfl ?_
              refine sa_cons ?_ ?_
              · exact se_var 3
              · exact sa_nil
            · refine sa_cons ?_ ?_
              · refine se_ix ?_ ?_
                · exact se_var 0
                · exact se_int
              · refine sa_cons ?_ ?_
                · refine se_ix ?_ ?_
                  · exact se_var 0
                  · exact se_int
                · refine sa_cons ?_ ?_
                  · exact se_var 7
                  · exact sa_nil

theorem sc__law_same : FnScope ["got", "due", "k"] ["got", "due"] (defScope s__law_same) := ⟨rfl, rfl, rfl, by decide +kernel, rfl, by decide +kernel, by decide +kernel⟩
def g__law_same (rec_ : FF) : FS := (gSeq (gIf (eBin dIs (eVar 1) (eC .non)) (gRet (eBin dIs (eVar 0) (eC .non))) gNext)
    (gSeq (gIf (eBin dIs (eVar 1) (eC (.bl true))) (gRet (eBin dIs (eVar 0) (eC (.bl true)))) gNext)
    (gSeq (gIf (eBin dIs (eVar 1) (eC (.bl false))) (gRet (eBin dIs (eVar 0) (eC (.bl false)))) gNext)
    (gSeq (gIf (eIsi "int" (eVar 1)) (gRet (eAnd (eIsi "int" (eVar 0)) (eAnd (eNot (eIsi "bool" (eVar 0))) (eBin dEq (eVar 0) (eVar 1))))) gNext)
    (gSeq (gIf (eIsi "str" (eVar 1)) (gRet (eAnd (eIsi "str" (eVar 0)) (eBin dEq (eVar 0) (eVar 1)))) gNext)
    (gSeq (gIf (eAnd (eIsi "tuple" (eVar 1)) (eNot (eIsi "tuple" (eVar 0)))) (gRet (eC (.bl false))) gNext)
    (gSeq (gIf (eAnd (eIsi "list" (eVar 1)) (eNot (eIsi "list" (eVar 0)))) (gRet (eC (.bl false))) gNext)
    (gSeq (gIf (eBin dNe (eArgs bLen [(eVar 0)]) (eArgs bLen [(eVar 1)])) (gRet (eC (.bl false))) gNext)
    (gSeq (gFor (fiRg [(eArgs bLen [(eVar 1)])]) (tName 2) (gIf (eNot (eArgs rec_ [(eBin dIx (eVar 0) (eVar 2)), (eBin dIx (eVar 1) (eVar 2))])) (gRet (eC (.bl false))) gNext))
    (gRet (eC (.bl true))))))))))))
def m__law_same : Nat → FF
  | 0 => fun _ _ => .bad
  | n + 1 => runB 3 (g__law_same (m__law_same n))
theorem ok__law_same (T : Txt K mg) : ∀ n : Nat, OkF P w K mg base (0 + n + 1) T.f__law_same.f T.f__law_same.fd ["got", "due"] (m__law_same n)
  | 0 => @okS P w K mg base "_law_same" "_law_same" s__law_same T.f__law_same.f T.f__law_same.fd ["got", "due", "k"] ["got", "due"]  0 gBad T.f__law_same.fn sc__law_same fun cdv A outer s H E hr tk PO => sss_bad
  | n + 1 => by
    have ih := ok__law_same T n
    refine @okS P w K mg base "_law_same" "_law_same" s__law_same T.f__law_same.f T.f__law_same.fd ["got", "due", "k"] ["got", "due"]  (0 + n + 1) (g__law_same (m__law_same n)) T.f__law_same.fn sc__law_same ?_
    intro cdv A outer s H E hr tk PO
    unfold g__law_same
    refine sss_cons ?_ ?_
    · refine ss_if ?_ ?_ ?_
      · refine st_cmp op_is3 os_is ?_ ?_ (nomark _)
        · exact se_var 1
        · exact se_non
      · refine sss_one ?_
        refine ss_ret ?_
        refine se_cmp op_is3 os_is ?_ ?_ (nomark _)
        · exact se_var 0
        · exact se_non
      · exact sss_nil
    · refine sss_cons ?_ ?_
      · refine ss_if ?_ ?_ ?_
        · refine st_cmp op_is3 os_is ?_ ?_ (nomark _)
          · exact se_var 1
          · exact se_bl
        · refine sss_one ?_
          refine ss_ret ?_
          refine se_cmp op_is3 os_is ?_ ?_ (nomark _)
          · exact se_var 0
          · exact se_bl
        · exact sss_nil
      · refine sss_cons ?_ ?_
        · refine ss_if ?_ ?_ ?_
          · refine st_cmp op_is3 os_is ?_ ?_ (nomark _)
            · exact se_var 1
            · exact se_bl
          · refine sss_one ?_
            refine ss_ret ?_
            refine se_cmp op_is3 os_is ?_ ?_ (nomark _)
            · exact se_var 0
            · exact se_bl
          · exact sss_nil
        · refine sss_cons ?_ ?_
          · refine ss_if ?_ ?_ ?_
            · refine st_val ?_
              refine se_isi ?_ rfl T.b_isinstance rfl rfl T.b_int rfl
              exact se_var 1
            · refine sss_one ?_
              refine ss_ret ?_
              refine se_and ?_ ?_
              · refine se_isi ?_ rfl T.b_isinstance rfl rfl T.b_int rfl
                exact se_var 0
              · refine se_and ?_ ?_
                · refine se_not ?_
                  refine se_isi ?_ rfl T.b_isinstance rfl rfl T.b_bool rfl
                  exact se_var 0
                · refine se_one ?_
                  refine se_cmp (op_eq2 hr.units) os_eq ?_ ?_ (nomark _)
                  · exact se_var 0
                  · exact se_var 1
            · exact sss_nil
          · refine sss_cons ?_ ?_
            · refine ss_if ?_ ?_ ?_
              · refine st_val ?_
                refine se_isi ?_ rfl T.b_isinstance rfl rfl T.b_str rfl
                exact se_var 1
              · refine sss_one ?_
                refine ss_ret ?_
                refine se_and ?_ ?_
                · refine se_isi ?_ rfl T.b_isinstance rfl rfl T.b_str rfl
                  exact se_var 0
                · refine se_one ?_
                  refine se_cmp (op_eq2 hr.units) os_eq ?_ ?_ (nomark _)
                  · exact se_var 0
                  · exact se_var 1
              · exact sss_nil
            · refine sss_cons ?_ ?_
              · refine ss_if ?_ ?_ ?_
                · refine SW.st ?_
                  refine sw_and ?_ ?_
                  · refine st_val ?_
                    refine se_isi ?_ rfl T.b_isinstance rfl rfl T.b_tuple rfl
                    exact se_var 1
                  · refine sw_and1 ?_
                    refine st_not ?_
                    refine st_val ?_
                    refine se_isi ?_ rfl T.b_isinstance rfl rfl T.b_tuple rfl
                    exact se_var 0
                · refine sss_one ?_
                  refine ss_ret ?_
                  exact se_bl
                · exact sss_nil
              · refine sss_cons ?_ ?_
                · refine ss_if ?_ ?_ ?_
                  · refine SW.st ?_
                    refine sw_and ?_ ?_
                    · refine st_val ?_
                      refine se_isi ?_ rfl T.b_isinstance rfl rfl T.b_list rfl
                      exact se_var 1
                    · refine sw_and1 ?_
                      refine st_not ?_
                      refine st_val ?_
                      refine se_isi ?_ rfl T.b_isinstance rfl rfl T.b_list rfl
                      exact se_var 0
                  · refine sss_one ?_
                    refine ss_ret ?_
                    exact se_bl
                  · exact sss_nil
                · refine sss_cons ?_ ?_
                  · refine ss_if ?_ ?_ ?_
                    · refine st_cmp (op_ne2 hr.units) os_ne ?_ ?_ (nomark _)
                      · refine se_callB (call_len) (cs_len) rfl T.b_len rfl ?_
                        refine sa_cons ?_ ?_
                        · exact se_var 0
                        · exact sa_nil
                      · refine se_callB (call_len) (cs_len) rfl T.b_len rfl ?_
                        refine sa_cons ?_ ?_
                        · exact se_var 1
                        · exact sa_nil
                    · refine sss_one ?_
                      refine ss_ret ?_
                      exact se_bl
                    · exact sss_nil
                  · refine sss_cons ?_ ?_
                    · refine ss_for (vs := [2]) (wk := false) PO rfl ?_ ?_ ?_
                      · refine si_rg1 rfl T.b_range ?_
                        refine sa_cons ?_ ?_
                        · refine se_callB (call_len) (cs_len) rfl T.b_len rfl ?_
                          refine sa_cons ?_ ?_
                          · exact se_var 1
                          · exact sa_nil
                        · exact sa_nil
                      · exact sg_name sc__law_same.nd rfl (by first | exact Or.inl rfl | exact Or.inr rfl)
                      · refine sss_one ?_
                        refine ss_if ?_ ?_ ?_
                        · refine st_not ?_
                          refine st_val ?_
                          refine se_callA T.f__law_same ih tk (hr.mono (by omega)) rfl ?_
                          refine sa_cons ?_ ?_
                          · refine se_ix ?_ ?_
                            · exact se_var 0
                            · exact se_var 2
                          · refine sa_cons ?_ ?_
                            · refine se_ix ?_ ?_
                              · exact se_var 1
                              · exact se_var 2
                            · exact sa_nil
                        · refine sss_one ?_
                          refine ss_ret ?_
                          exact se_bl
                        · exact sss_nil
                    · refine sss_one ?_
                      refine ss_ret ?_
                      exact se_bl

theorem sc__law_odd : FnScope ["digit", "odds"] ["digit"] (defScope s__law_odd) := ⟨rfl, rfl, rfl, by decide +kernel, rfl, by decide +kernel, by decide +kernel⟩
def g__law_odd : FS := (gSeq (gSet 1 (eLst [(eC .non), (eC (.bl true)), (eC (.bl false)), (eNeg (eC (.int 1))), (eC (.int 9)), (eBin dPow (eC (.int 10)) (eC (.int 25))), (eC (.str "")), (eC (.str "0")), (eC (.str "free")), (eTup []), (eTup [(eC (.int 0))]), (eLst []), (eLst [(eC (.int 0))]), (eTup [(eC (.str "write")), (eC (.int 0))]), (eC (.str "ever")), (eC (.int 100))]))
    (gRet (eBin dIx (eVar 1) (eBin dMod (eArgs bInt [(eVar 0)]) (eC (.int 16))))))
def m__law_odd : FF := runB 2 g__law_odd
theorem ok__law_odd (T : Txt K mg) : OkF P w K mg base 1 T.f__law_odd.f T.f__law_odd.fd ["digit"] m__law_odd := by
  refine @okS P w K mg base "_law_odd" "_law_odd" s__law_odd T.f__law_odd.f T.f__law_odd.fd ["digit", "odds"] ["digit"]  0 g__law_odd T.f__law_odd.fn sc__law_odd ?_
  intro cdv A outer s H E hr tk PO
  unfold g__law_odd
  refine sss_cons ?_ ?_
  · refine ss_set sc__law_odd.nd rfl (by first | exact Or.inl rfl | exact Or.inr rfl) ?_
    refine se_lst ?_
    refine sa_cons ?_ ?_
    · exact se_non
    · refine sa_cons ?_ ?_
      · exact se_bl
      · refine sa_cons ?_ ?_
        · exact se_bl
        · refine sa_cons ?_ ?_
          · refine se_neg ?_
            exact se_int
          · refine sa_cons ?_ ?_
            · exact se_int
            · refine sa_cons ?_ ?_
              · refine se_op op_pow os_pow ?_ ?_
                · exact se_int
                · exact se_int
              · refine sa_cons ?_ ?_
                · exact se_str
                · refine sa_cons ?_ ?_
                  · exact se_str
                  · refine sa_cons ?_ ?_
                    · exact se_str
                    · refine sa_cons ?_ ?_
                      · refine se_tup ?_
                        exact sa_nil
                      · refine sa_cons ?_ ?_
                        · refine se_tup ?_
                          refine sa_cons ?_ ?_
                          · exact se_int
                          · exact sa_nil
                        · refine sa_cons ?_ ?_
                          · refine se_lst ?_
                            exact sa_nil
                          · refine sa_cons ?_ ?_
                            · refine se_lst ?_
                              refine sa_cons ?_ ?_
                              · exact se_int
                              · exact sa_nil
                            · refine sa_cons ?_ ?_
                              · refine se_tup ?_
                                refine sa_cons ?_ ?_
                                · exact se_str
                                · refine sa_cons ?_ ?_
                                  · exact se_int
                                  · exact sa_nil
                              · refine sa_cons ?_ ?_
                                · exact se_str
                                · refine sa_cons ?_ ?_
                                  · exact se_int
                                  · exact sa_nil
  · refine sss_one ?_
    refine ss_ret ?_
    refine se_ix ?_ ?_
    · exact se_var 1
    · refine se_op op_mod os_mod ?_ ?_
      · refine se_callTy (call_int1) (cs_int) rfl T.b_int rfl ?_
        refine sa_cons ?_ ?_
        · exact se_var 0
        · exact sa_nil
      · exact se_int

theorem sc__law_order_bent : FnScope ["order", "cell", "kind", "place", "odd", "row", "at"] ["order", "cell"] (defScope s__law_order_bent) := ⟨rfl, rfl, rfl, by decide +kernel, rfl, by decide +kernel, by decide +kernel⟩
def g__law_order_bent : FS := (gSeq (gAsg (eArgs m__law_digits [(eVar 1), (eLst [(eC (.int 12)), (eC (.int 9)), (eC (.int 16))])]) (tTup [(tName 2), (tName 3), (tName 4)]))
    (gSeq (gSet 5 (eArgs bList [(eVar 0)]))
    (gSeq (gSet 6 (eBin dMod (eArgs bInt [(eVar 3)]) (eArgs bLen [(eVar 5)])))
    (gSeq (gIf (eBin dEq (eVar 2) (eC (.int 0))) (gRet (eVar 5)) gNext)
    (gSeq (gIf (eBin dEq (eVar 2) (eC (.int 1))) (gLput (eVar 5) (eVar 6) (eBin dIx (eVar 5) (eC (.int 0)))) gNext)
    (gSeq (gIf (eBin dEq (eVar 2) (eC (.int 2))) (gDrop (eLm lAppend (eVar 5) [(eArgs bLen [(eVar 5)])])) gNext)
    (gSeq (gIf (eBin dEq (eVar 2) (eC (.int 3))) (gSet 5 (eSl (eVar 5) none (some (eBin dSub (eArgs bLen [(eVar 5)]) (eC (.int 1)))))) gNext)
    (gSeq (gIf (eBin dEq (eVar 2) (eC (.int 4))) (gLput (eVar 5) (eVar 6) (eBin dEq (eBin dIx (eVar 5) (eVar 6)) (eC (.int 1)))) gNext)
    (gSeq (gIf (eBin dEq (eVar 2) (eC (.int 5))) (gLput (eVar 5) (eVar 6) (eArgs m__law_odd [(eVar 4)])) gNext)
    (gSeq (gIf (eBin dEq (eVar 2) (eC (.int 6))) (gRet (eArgs m__law_odd [(eVar 4)])) gNext)
    (gSeq (gIf (eBin dEq (eVar 2) (eC (.int 7))) (gLput (eVar 5) (eVar 6) (eBin dAdd (eBin dIx (eVar 5) (eVar 6)) (eC (.int 1)))) gNext)
    (gRet (eArgs bTuple [(eVar 5)])))))))))))))
def m__law_order_bent : FF := runB 7 g__law_order_bent
theorem ok__law_order_bent (T : Txt K mg) : OkF P w K mg base 3 T.f__law_order_bent.f T.f__law_order_bent.fd ["order", "cell"] m__law_order_bent := by
  refine @okS P w K mg base "_law_order_bent" "_law_order_bent" s__law_order_bent T.f__law_order_bent.f T.f__law_order_bent.fd ["order", "cell", "kind", "place", "odd", "row", "at"] ["order", "cell"]  2 g__law_order_bent T.f__law_order_bent.fn sc__law_order_bent ?_
  intro cdv A outer s H E hr tk PO
  unfold g__law_order_bent
  refine sss_cons ?_ ?_
  · refine ss_asg (vs := [2, 3, 4]) ?_ ?_
    · refine se_callA T.f__law_digits (ok__law_digits T) tk (hr.mono (by decide)) rfl ?_
      refine sa_cons ?_ ?_
      · exact se_var 1
      · refine sa_cons ?_ ?_
        · refine se_lst ?_
          refine sa_cons ?_ ?_
          · exact se_int
          · refine sa_cons ?_ ?_
            · exact se_int
            · refine sa_cons ?_ ?_
              · exact se_int
              · exact sa_nil
        · exact sa_nil
    · refine sg_tup rfl ?_
      refine sgs_cons (vs := [2]) (ws := [3, 4]) ?_ ?_
      · exact sg_name sc__law_order_bent.nd rfl (by first | exact Or.inl rfl | exact Or.inr rfl)
      · refine sgs_cons (vs := [3]) (ws := [4]) ?_ ?_
        · exact sg_name sc__law_order_bent.nd rfl (by first | exact Or.inl rfl | exact Or.inr rfl)
        · refine sgs_cons (vs := [4]) (ws := []) ?_ ?_
          · exact sg_name sc__law_order_bent.nd rfl (by first | exact Or.inl rfl | exact Or.inr rfl)
          · exact sgs_nil
  · refine sss_cons ?_ ?_
    · refine ss_set sc__law_order_bent.nd rfl (by first | exact Or.inl rfl | exact Or.inr rfl) ?_
      refine se_callTy (call_list_of) (cs_list) rfl T.b_list rfl ?_
      refine sa_cons ?_ ?_
      · exact se_var 0
      · exact sa_nil
    · refine sss_cons ?_ ?_
      · refine ss_set sc__law_order_bent.nd rfl (by first | exact Or.inl rfl | exact Or.inr rfl) ?_
        refine se_op op_mod os_mod ?_ ?_
        · refine se_callTy (call_int1) (cs_int) rfl T.b_int rfl ?_
          refine sa_cons ?_ ?_
          · exact se_var 3
          · exact sa_nil
        · refine se_callB (call_len) (cs_len) rfl T.b_len rfl ?_
          refine sa_cons ?_ ?_
          · exact se_var 5
          · exact sa_nil
      · refine sss_cons ?_ ?_
        · refine ss_if ?_ ?_ ?_
          · refine st_cmp (op_eq2 hr.units) os_eq ?_ ?_ (nomark _)
            · exact se_var 2
            · exact se_int
          · refine sss_one ?_
            refine ss_ret ?_
            exact se_var 5
          · exact sss_nil
        · refine sss_cons ?_ ?_
          · refine ss_if ?_ ?_ ?_
            · refine st_cmp (op_eq2 hr.units) os_eq ?_ ?_ (nomark _)
              · exact se_var 2
              · exact se_int
            · refine sss_one ?_
              refine ss_lput ?_ ?_ ?_
              · exact se_var 5
              · exact se_var 6
              · refine se_ix ?_ ?_
                · exact se_var 5
                · exact se_int
            · exact sss_nil
          · refine sss_cons ?_ ?_
            · refine ss_if ?_ ?_ ?_
              · refine st_cmp (op_eq2 hr.units) os_eq ?_ ?_ (nomark _)
                · exact se_var 2
                · exact se_int
              · refine sss_one ?_
                refine ss_expr ?_
                refine se_lm PySem.F.plainAttrs_list PySem.F.slot_list_append PySem.F.type_list_append mt_append ls_append ?_ ?_
                · exact se_var 5
                · refine sa_cons ?_ ?_
                  · refine se_callB (call_len) (cs_len) rfl T.b_len rfl ?_
                    refine sa_cons ?_ ?_
                    · exact se_var 5
                    · exact sa_nil
                  · exact sa_nil
              · exact sss_nil
            · refine sss_cons ?_ ?_
              · refine ss_if ?_ ?_ ?_
                · refine st_cmp (op_eq2 hr.units) os_eq ?_ ?_ (nomark _)
                  · exact se_var 2
                  · exact se_int
                · refine sss_one ?_
                  refine ss_set sc__law_order_bent.nd rfl (by first | exact Or.inl rfl | exact Or.inr rfl) ?_
                  refine se_sl ?_ ?_ ?_
                  · exact se_var 5
                  · exact SO.no
                  · refine SO.yes ?_
                    refine se_op op_sub os_sub ?_ ?_
                    · refine se_callB (call_len) (cs_len) rfl T.b_len rfl ?_
                      refine sa_cons ?_ ?_
                      · exact se_var 5
                      · exact sa_nil
                    · exact se_int
                · exact sss_nil
              · refine sss_cons ?_ ?_
                · refine ss_if ?_ ?_ ?_
                  · refine st_cmp (op_eq2 hr.units) os_eq ?_ ?_ (nomark _)
                    · exact se_var 2
                    · exact se_int
                  · refine sss_one ?_
                    refine ss_lput ?_ ?_ ?_
                    · exact se_var 5
                    · exact se_var 6
                    · refine se_cmp (op_eq2 hr.units) os_eq ?_ ?_ (nomark _)
                      · refine se_ix ?_ ?_
                        · exact se_var 5
                        · exact se_var 6
                      · exact se_int
                  · exact sss_nil
                · refine sss_cons ?_ ?_
                  · refine ss_if ?_ ?_ ?_
                    · refine st_cmp (op_eq2 hr.units) os_eq ?_ ?_ (nomark _)
                      · exact se_var 2
                      · exact se_int
                    · refine sss_one ?_
                      refine ss_lput ?_ ?_ ?_
                      · exact se_var 5
                      · exact se_var 6
                      · refine se_callA T.f__law_odd (ok__law_odd T) tk (hr.mono (by decide)) rfl ?_
                        refine sa_cons ?_ ?_
                        · exact se_var 4
                        · exact sa_nil
                    · exact sss_nil
                  · refine sss_cons ?_ ?_
                    · refine ss_if ?_ ?_ ?_
                      · refine st_cmp (op_eq2 hr.units) os_eq ?_ ?_ (nomark _)
                        · exact se_var 2
                        · exact se_int
                      · refine sss_one ?_
                        refine ss_ret ?_
                        refine se_callA T.f__law_odd (ok__law_odd T) tk (hr.mono (by decide)) rfl ?_
                        refine sa_cons ?_ ?_
                        · exact se_var 4
                        · exact sa_nil
                      · exact sss_nil
                    · refine sss_cons ?_ ?_
                      · refine ss_if ?_ ?_ ?_
                        · refine st_cmp (op_eq2 hr.units) os_eq ?_ ?_ (nomark _)
                          · exact se_var 2
                          · exact se_int
                        · refine sss_one ?_
                          refine ss_lput ?_ ?_ ?_
                          · exact se_var 5
                          · exact se_var 6
                          · refine se_op op_add4 os_add ?_ ?_
                            · refine se_ix ?_ ?_
                              · exact se_var 5
                              · exact se_var 6
                            · exact se_int
                        · exact sss_nil
                      · refine sss_one ?_
                        refine ss_ret ?_
                        refine se_callTy (call_tuple_ofF) (cs_tuple) rfl T.b_tuple rfl ?_
                        refine sa_cons ?_ ?_
                        · exact se_var 5
                        · exact sa_nil

theorem sc__law_is_int : FnScope ["thing", "low", "high"] ["thing", "low", "high"] (defScope s__law_is_int) := ⟨rfl, rfl, rfl, by decide +kernel, rfl, by decide +kernel, by decide +kernel⟩
def g__law_is_int : FS := (gRet (eAnd (eIsi "int" (eVar 0)) (eAnd (eNot (eIsi "bool" (eVar 0))) (eChain (dCmp fun i j => decide (i ≤ j)) (dCmp fun i j => decide (i ≤ j)) (eVar 1) (eVar 0) (eVar 2)))))
def m__law_is_int : FF := runB 3 g__law_is_int
theorem ok__law_is_int (T : Txt K mg) : OkF P w K mg base 1 T.f__law_is_int.f T.f__law_is_int.fd ["thing", "low", "high"] m__law_is_int := by
  refine @okS P w K mg base "_law_is_int" "_law_is_int" s__law_is_int T.f__law_is_int.f T.f__law_is_int.fd ["thing", "low", "high"] ["thing", "low", "high"]  0 g__law_is_int T.f__law_is_int.fn sc__law_is_int ?_
  intro cdv A outer s H E hr tk PO
  unfold g__law_is_int
  refine sss_one ?_
  refine ss_ret ?_
  refine se_and ?_ ?_
  · refine se_isi ?_ rfl T.b_isinstance rfl rfl T.b_int rfl
    exact se_var 0
  · refine se_and ?_ ?_
    · refine se_not ?_
      refine se_isi ?_ rfl T.b_isinstance rfl rfl T.b_bool rfl
      exact se_var 0
    · refine se_one ?_
      refine se_chain op_le op_le os_cmp os_cmp ?_ ?_ ?_
      · exact se_var 1
      · exact se_var 0
      · exact se_var 2

theorem sc__law_is_order : FnScope ["thing", "size", "number"] ["thing", "size"] (defScope s__law_is_order) := ⟨rfl, rfl, rfl, by decide +kernel, rfl, by decide +kernel, by decide +kernel⟩
def g__law_is_order : FS := (gSeq (gIf (eOr (eNot (eIsi "tuple" (eVar 0))) (eBin dNe (eArgs bLen [(eVar 0)]) (eVar 1))) (gRet (eC (.bl false))) gNext)
    (gSeq (gFor (fiSeq (eVar 0)) (tName 2) (gIf (eNot (eArgs m__law_is_int [(eVar 2), (eC (.int 0)), (eBin dSub (eVar 1) (eC (.int 1)))])) (gRet (eC (.bl false))) gNext))
    (gRet (eBin dEq (eArgs bSortI [(eVar 0)]) (eListRg (eVar 1))))))
def m__law_is_order : FF := runB 3 g__law_is_order
theorem ok__law_is_order (T : Txt K mg) : OkF P w K mg base 2 T.f__law_is_order.f T.f__law_is_order.fd ["thing", "size"] m__law_is_order := by
  refine @okS P w K mg base "_law_is_order" "_law_is_order" s__law_is_order T.f__law_is_order.f T.f__law_is_order.fd ["thing", "size", "number"] ["thing", "size"]  1 g__law_is_order T.f__law_is_order.fn sc__law_is_order ?_
  intro cdv A outer s H E hr tk PO
  unfold g__law_is_order
  refine sss_cons ?_ ?_
  · refine ss_if ?_ ?_ ?_
    · refine SW.st ?_
      refine sw_or ?_ ?_
      · refine st_not ?_
        refine st_val ?_
        refine se_isi ?_ rfl T.b_isinstance rfl rfl T.b_tuple rfl
        exact se_var 0
      · refine sw_or1 ?_
        refine st_cmp (op_ne2 hr.units) os_ne ?_ ?_ (nomark _)
        · refine se_callB (call_len) (cs_len) rfl T.b_len rfl ?_
          refine sa_cons ?_ ?_
          · exact se_var 0
          · exact sa_nil
        · exact se_var 1
    · refine sss_one ?_
      refine ss_ret ?_
      exact se_bl
    · exact sss_nil
  · refine sss_cons ?_ ?_
    · refine ss_for (vs := [2]) (wk := false) PO rfl ?_ ?_ ?_
      · refine si_seq ?_
        exact se_var 0
      · exact sg_name sc__law_is_order.nd rfl (by first | exact Or.inl rfl | exact Or.inr rfl)
      · refine sss_one ?_
        refine ss_if ?_ ?_ ?_
        · refine st_not ?_
          refine st_val ?_
          refine se_callA T.f__law_is_int (ok__law_is_int T) tk (hr.mono (by decide)) rfl ?_
          refine sa_cons ?_ ?_
          · exact se_var 2
          · refine sa_cons ?_ ?_
            · exact se_int
            · refine sa_cons ?_ ?_
              · refine se_op op_sub os_sub ?_ ?_
                · exact se_var 1
                · exact se_int
              · exact sa_nil
        · refine sss_one ?_
          refine ss_ret ?_
          exact se_bl
        · exact sss_nil
    · refine sss_one ?_
      refine ss_ret ?_
      refine se_cmp (op_eq2 hr.units) os_eq ?_ ?_ (nomark _)
      · refine se_callB (cr_sortTI) (cs_sortI) rfl T.b_sorted rfl ?_
        refine sa_cons ?_ ?_
        · exact se_var 0
        · exact sa_nil
      · refine se_listRg rfl rfl T.b_list rfl T.b_range ?_
        exact se_var 1

theorem sc__law_due : FnScope ["shape", "blocks", "keys"] ["shape", "blocks", "keys"] (defScope s__law_due) := ⟨rfl, rfl, rfl, by decide +kernel, rfl, by decide +kernel, by decide +kernel⟩
def g__law_due : FS := (gSeq (gIf (eNot (eArgs m__law_is_order [(eVar 1), (eArgs bLen [(eBin dIx (eVar 0) (eC (.int 1)))])])) (gRet (eTup [(eC (.str "no")), (eC (.str "blocks"))])) gNext)
    (gSeq (gIf (eNot (eArgs m__law_is_order [(eVar 2), (eBin dIx (eVar 0) (eC (.int 0)))])) (gRet (eTup [(eC (.str "no")), (eC (.str "keys"))])) gNext)
    (gRet (eTup [(eC (.str "stand")), (eArgs m__law_renamed [(eVar 0), (eVar 1), (eVar 2)])]))))
def m__law_due : FF := runB 3 g__law_due
theorem ok__law_due (T : Txt K mg) : OkF P w K mg base 3 T.f__law_due.f T.f__law_due.fd ["shape", "blocks", "keys"] m__law_due := by
  refine @okS P w K mg base "_law_due" "_law_due" s__law_due T.f__law_due.f T.f__law_due.fd ["shape", "blocks", "keys"] ["shape", "blocks", "keys"]  2 g__law_due T.f__law_due.fn sc__law_due ?_
  intro cdv A outer s H E hr tk PO
  unfold g__law_due
  refine sss_cons ?_ ?_
  · refine ss_if ?_ ?_ ?_
    · refine st_not ?_
      refine st_val ?_
      refine se_callA T.f__law_is_order (ok__law_is_order T) tk (hr.mono (by decide)) rfl ?_
      refine sa_cons ?_ ?_
      · exact se_var 1
      · refine sa_cons ?_ ?_
        · refine se_callB (call_len) (cs_len) rfl T.b_len rfl ?_
          refine sa_cons ?_ ?_
          · refine se_ix ?_ ?_
            · exact se_var 0
            · exact se_int
          · exact sa_nil
        · exact sa_nil
    · refine sss_one ?_
      refine ss_ret ?_
      refine se_tup ?_
      refine sa_cons ?_ ?_
      · exact se_str
      · refine sa_cons ?_ ?_
        · exact se_str
        · exact sa_nil
    · exact sss_nil
  · refine sss_cons ?_ ?_
    · refine ss_if ?_ ?_ ?_
      · refine st_not ?_
        refine st_val ?_
        refine se_callA T.f__law_is_order (ok__law_is_order T) tk (hr.mono (by decide)) rfl ?_
        refine sa_cons ?_ ?_
        · exact se_var 2
        · refine sa_cons ?_ ?_
          · refine se_ix ?_ ?_
            · exact se_var 0
            · exact se_int
          · exact sa_nil
      · refine sss_one ?_
        refine ss_ret ?_
        refine se_tup ?_
        refine sa_cons ?_ ?_
        · exact se_str
        · refine sa_cons ?_ ?_
          · exact se_str
          · exact sa_nil
      · exact sss_nil
    · refine sss_one ?_
      refine ss_ret ?_
      refine se_tup ?_
      refine sa_cons ?_ ?_
      · exact se_str
      · refine sa_cons ?_ ?_
        · refine se_callA T.f__law_renamed (ok__law_renamed T) tk (hr.mono (by decide)) rfl ?_
          refine sa_cons ?_ ?_
          · exact se_var 0
          · refine sa_cons ?_ ?_
            · exact se_var 1
            · refine sa_cons ?_ ?_
              · exact se_var 2
              · exact sa_nil
        · exact sa_nil

theorem sc_law : FnScope ["script", "shape", "stand", "blocks", "keys"] ["script"] (defScope s_law) := ⟨rfl, rfl, rfl, by decide +kernel, rfl, by decide +kernel, by decide +kernel⟩
def g_law : FS := (gSeq (gSet 1 (eArgs m__law_any_stand [(eVar 0), (eC (.int 1))]))
    (gSeq (gSet 2 (eArgs m__law_stand [(eVar 1)]))
    (gSeq (gSet 3 (eArgs m__law_order [(eArgs m__law_cell [(eVar 0), (eC (.int 11))]), (eArgs bLen [(eBin dIx (eVar 1) (eC (.int 1)))])]))
    (gSeq (gSet 4 (eArgs m__law_order [(eArgs m__law_cell [(eVar 0), (eC (.int 12))]), (eBin dIx (eVar 1) (eC (.int 0)))]))
    (gSeq (gIf (eNot (eArgs (m__law_same 8) [(eArgs m__law_told [(eVar 2), (eVar 3), (eVar 4)]), (eTup [(eC (.str "stand")), (eArgs m__law_renamed [(eVar 1), (eVar 3), (eVar 4)])])])) (gRet (eC (.bl false))) gNext)
    (gSeq (gSet 3 (eArgs m__law_order_bent [(eVar 3), (eArgs m__law_cell [(eVar 0), (eC (.int 13))])]))
    (gSeq (gSet 4 (eArgs m__law_order_bent [(eVar 4), (eArgs m__law_cell [(eVar 0), (eC (.int 14))])]))
    (gSeq (gIf (eNot (eArgs (m__law_same 8) [(eArgs m__law_told [(eVar 2), (eVar 3), (eVar 4)]), (eArgs m__law_due [(eVar 1), (eVar 3), (eVar 4)])])) (gRet (eC (.bl false))) gNext)
    (gRet (eArgs (m__law_same 8) [(eMeth "Stand" "shape" m_Stand_shape (eVar 2) []), (eVar 1)]))))))))))
def m_law : FF := runB 5 g_law
theorem ok_law (T : Txt K mg) : OkF P w K mg base 10 T.f_law.f T.f_law.fd ["script"] m_law := by
  refine @okS P w K mg base "law" "law" s_law T.f_law.f T.f_law.fd ["script", "shape", "stand", "blocks", "keys"] ["script"]  9 g_law T.f_law.fn sc_law ?_
  intro cdv A outer s H E hr tk PO
  unfold g_law
  refine sss_cons ?_ ?_
  · refine ss_set sc_law.nd rfl (by first | exact Or.inl rfl | exact Or.inr rfl) ?_
    refine se_callA T.f__law_any_stand (ok__law_any_stand T) tk (hr.mono (by decide)) rfl ?_
    refine sa_cons ?_ ?_
    · exact se_var 0
    · refine sa_cons ?_ ?_
      · exact se_int
      · exact sa_nil
  · refine sss_cons ?_ ?_
    · refine ss_set sc_law.nd rfl (by first | exact Or.inl rfl | exact Or.inr rfl) ?_
      refine se_callA T.f__law_stand (ok__law_stand T) tk (hr.mono (by decide)) rfl ?_
      refine sa_cons ?_ ?_
      · exact se_var 1
      · exact sa_nil
    · refine sss_cons ?_ ?_
      · refine ss_set sc_law.nd rfl (by first | exact Or.inl rfl | exact Or.inr rfl) ?_
        refine se_callA T.f__law_order (ok__law_order T) tk (hr.mono (by decide)) rfl ?_
        refine sa_cons ?_ ?_
        · refine se_callA T.f__law_cell (ok__law_cell T) tk (hr.mono (by decide)) rfl ?_
          refine sa_cons ?_ ?_
          · exact se_var 0
          · refine sa_cons ?_ ?_
            · exact se_int
            · exact sa_nil
        · refine sa_cons ?_ ?_
          · refine se_callB (call_len) (cs_len) rfl T.b_len rfl ?_
            refine sa_cons ?_ ?_
            · refine se_ix ?_ ?_
              · exact se_var 1
              · exact se_int
            · exact sa_nil
          · exact sa_nil
      · refine sss_cons ?_ ?_
        · refine ss_set sc_law.nd rfl (by first | exact Or.inl rfl | exact Or.inr rfl) ?_
          refine se_callA T.f__law_order (ok__law_order T) tk (hr.mono (by decide)) rfl ?_
          refine sa_cons ?_ ?_
          · refine se_callA T.f__law_cell (ok__law_cell T) tk (hr.mono (by decide)) rfl ?_
            refine sa_cons ?_ ?_
            · exact se_var 0
            · refine sa_cons ?_ ?_
              · exact se_int
              · exact sa_nil
          · refine sa_cons ?_ ?_
            · refine se_ix ?_ ?_
              · exact se_var 1
              · exact se_int
            · exact sa_nil
        · refine sss_cons ?_ ?_
          · refine ss_if ?_ ?_ ?_
            · refine st_not ?_
              refine st_val ?_
              refine se_callA T.f__law_same (ok__law_same T 8) tk (hr.mono (by decide)) rfl ?_
              refine sa_cons ?_ ?_
              · refine se_callA T.f__law_told (ok__law_told T) tk (hr.mono (by decide)) rfl ?_
                refine sa_cons ?_ ?_
                · exact se_var 2
                · refine sa_cons ?_ ?_
                  · exact se_var 3
                  · refine sa_cons ?_ ?_
                    · exact se_var 4
                    · exact sa_nil
              · refine sa_cons ?_ ?_
                · refine se_tup ?_
                  refine sa_cons ?_ ?_
                  · exact se_str
                  · refine sa_cons ?_ ?_
                    · refine se_callA T.f__law_renamed (ok__law_renamed T) tk (hr.mono (by decide)) rfl ?_
                      refine sa_cons ?_ ?_
                      · exact se_var 1
                      · refine sa_cons ?_ ?_
                        · exact se_var 3
                        · refine sa_cons ?_ ?_
                          · exact se_var 4
                          · exact sa_nil
                    · exact sa_nil
                · exact sa_nil
            · refine sss_one ?_
              refine ss_ret ?_
              exact se_bl
            · exact sss_nil
          · refine sss_cons ?_ ?_
            · refine ss_set sc_law.nd rfl (by first | exact Or.inl rfl | exact Or.inr rfl) ?_
              refine se_callA T.f__law_order_bent (ok__law_order_bent T) tk (hr.mono (by decide)) rfl ?_
              refine sa_cons ?_ ?_
              · exact se_var 3
              · refine sa_cons ?_ ?_
                · refine se_callA T.f__law_cell (ok__law_cell T) tk (hr.mono (by decide)) rfl ?_
                  refine sa_cons ?_ ?_
                  · exact se_var 0
                  · refine sa_cons ?_ ?_
                    · exact se_int
                    · exact sa_nil
                · exact sa_nil
            · refine sss_cons ?_ ?_
              · refine ss_set sc_law.nd rfl (by first | exact Or.inl rfl | exact Or.inr rfl) ?_
                refine se_callA T.f__law_order_bent (ok__law_order_bent T) tk (hr.mono (by decide)) rfl ?_
                refine sa_cons ?_ ?_
                · exact se_var 4
                · refine sa_cons ?_ ?_
                  · refine se_callA T.f__law_cell (ok__law_cell T) tk (hr.mono (by decide)) rfl ?_
                    refine sa_cons ?_ ?_
                    · exact se_var 0
                    · refine sa_cons ?_ ?_
                      · exact se_int
                      · exact sa_nil
                  · exact sa_nil
              · refine sss_cons ?_ ?_
                · refine ss_if ?_ ?_ ?_
                  · refine st_not ?_
                    refine st_val ?_
                    refine se_callA T.f__law_same (ok__law_same T 8) tk (hr.mono (by decide)) rfl ?_
                    refine sa_cons ?_ ?_
                    · refine se_callA T.f__law_told (ok__law_told T) tk (hr.mono (by decide)) rfl ?_
                      refine sa_cons ?_ ?_
                      · exact se_var 2
                      · refine sa_cons ?_ ?_
                        · exact se_var 3
                        · refine sa_cons ?_ ?_
                          · exact se_var 4
                          · exact sa_nil
                    · refine sa_cons ?_ ?_
                      · refine se_callA T.f__law_due (ok__law_due T) tk (hr.mono (by decide)) rfl ?_
                        refine sa_cons ?_ ?_
                        · exact se_var 1
                        · refine sa_cons ?_ ?_
                          · exact se_var 3
                          · refine sa_cons ?_ ?_
                            · exact se_var 4
                            · exact sa_nil
                      · exact sa_nil
                  · refine sss_one ?_
                    refine ss_ret ?_
                    exact se_bl
                  · exact sss_nil
                · refine sss_one ?_
                  refine ss_ret ?_
                  refine se_callA T.f__law_same (ok__law_same T 8) tk (hr.mono (by decide)) rfl ?_
                  refine sa_cons ?_ ?_
                  · refine se_methA0 (C := T.k_Stand) T.f_Stand_shape (ok_Stand_shape T) tk (hr.mono (by decide)) ?_
                    exact se_var 2
                  · refine sa_cons ?_ ?_
                    · exact se_var 1
                    · exact sa_nil

end
theorem all_mk {P : Program} {w : World} {K : PySem.W.Frag} {h : Heap} {mg : Str → Option Value} {fa : Addr} {t_MOST_BLOCKS : Tok} {t_MOST_KEYS : Tok} {t_MOST_LEFT : Tok} {t_MOST_LOSSES : Tok} {t_MOST_PAGES : Tok} {C_Stand : Addr} {E_NoNames : Addr} {B_NoNames : Addr} {F_NoNames : Addr} {f__law_cell : Addr} {f__law_mixed : Addr} {f__law_digits : Addr} {f__law_left : Addr} {f__law_pages : Addr} {f__law_block : Addr} {f__law_drawn : Addr} {f__law_small_left : Addr} {f__law_small : Addr} {f__law_any_stand : Addr} {f_is_whole : Addr} {f_is_left : Addr} {f_is_key : Addr} {f_is_block : Addr} {f_are_blocks : Addr} {f_wrong_part : Addr} {f_Stand_init : Addr} {f__law_stand : Addr} {f__law_order : Addr} {f_Stand_shape : Addr} {f_Stand_blocks : Addr} {f_is_count : Addr} {f_is_order : Addr} {f_Stand_many : Addr} {f_Stand_fails : Addr} {f_Stand_cuts : Addr} {f_Stand_asked : Addr} {f_renamed : Addr} {f__law_told : Addr} {f__law_renamed : Addr} {f__law_same : Addr} {f__law_odd : Addr} {f__law_order_bent : Addr} {f__law_is_int : Addr} {f__law_is_order : Addr} {f__law_due : Addr} {f_law : Addr} (LT : ∀ ns : List Int, ns.length ≤ 63 → ∃ h', m_law [.scl (ns.map D.int)] [] = .ok (.bl true) h') (X : K.In h) (G : h.Ns mainGlobals mg) (hfa : mg "law" = some (.ref fa))
    (b_all : PySem.W.nsIn K mainGlobals "all" = some none)
    (b_any : PySem.W.nsIn K mainGlobals "any" = some none)
    (b_bool : PySem.W.nsIn K mainGlobals "bool" = some none)
    (b_enumerate : PySem.W.nsIn K mainGlobals "enumerate" = some none)
    (b_int : PySem.W.nsIn K mainGlobals "int" = some none)
    (b_isinstance : PySem.W.nsIn K mainGlobals "isinstance" = some none)
    (b_len : PySem.W.nsIn K mainGlobals "len" = some none)
    (b_list : PySem.W.nsIn K mainGlobals "list" = some none)
    (b_range : PySem.W.nsIn K mainGlobals "range" = some none)
    (b_set : PySem.W.nsIn K mainGlobals "set" = some none)
    (b_sorted : PySem.W.nsIn K mainGlobals "sorted" = some none)
    (b_str : PySem.W.nsIn K mainGlobals "str" = some none)
    (b_tuple : PySem.W.nsIn K mainGlobals "tuple" = some none)
    (c_MOST_BLOCKS : PySem.W.nsIn K mainGlobals "MOST_BLOCKS" = some (some (.int 9 t_MOST_BLOCKS)))
    (c_MOST_KEYS : PySem.W.nsIn K mainGlobals "MOST_KEYS" = some (some (.int 9 t_MOST_KEYS)))
    (c_MOST_LEFT : PySem.W.nsIn K mainGlobals "MOST_LEFT" = some (some (.int 99 t_MOST_LEFT)))
    (c_MOST_LOSSES : PySem.W.nsIn K mainGlobals "MOST_LOSSES" = some (some (.int 9 t_MOST_LOSSES)))
    (c_MOST_PAGES : PySem.W.nsIn K mainGlobals "MOST_PAGES" = some (some (.int 6 t_MOST_PAGES)))
    (a_Stand : PySem.W.nsIn K mainGlobals "Stand" = some (some (.ref C_Stand)))
    (pg_Stand : PySem.W.plainGet K C_Stand Str.empty = true)
    (hd_Stand : PySem.W.hasDictIn K C_Stand = true)
    (po_Stand : PySem.W.plainOver K C_Stand = true)
    (sa_Stand : PySem.W.findIn K (.ref C_Stand) "__setattr__" = some (some (.builtin "object.__setattr__")))
    (mk_Stand : PySem.W.makesIn K C_Stand = true)
    (kc_Stand : PySem.W.keepIn K (.ref C_Stand) = true)
    (na_Stand__shape : PySem.W.findIn K (.ref C_Stand) "_shape" = some none)
    (g_NoNames : PySem.W.nsIn K mainGlobals "NoNames" = some (some (.ref E_NoNames)))
    (g0_NoNames : PySem.W.nsIn K mainGlobals "SpentError" = some (some (.ref B_NoNames)))
    (ox_NoNames : ∃ nm q N bs bm sn sub ab col dd k0 k1 k2 k3 k5, K.lookup E_NoNames = some (excClassObj nm q E_NoNames N bs bm true sn sub ab col dd k0 k1 k2 k3 k5 "ValueError.__new__") ∧ PySem.HandSPX.refsVE bm = true)
    (sa_NoNames : PySem.W.findIn K (.ref E_NoNames) "__setattr__" = some (some (.builtin "object.__setattr__")))
    (be_NoNames : PySem.W.subIn K (.ref E_NoNames) (.type "BaseException") = some true)
    (te_NoNames : PySem.W.typeIn K (.ref E_NoNames) = some (.type "type"))
    (ke_NoNames : PySem.W.keepIn K (.ref E_NoNames) = true)
    (no_NoNames : PySem.W.findIn K (.ref E_NoNames) "part" = some none)
    (ga_NoNames : PySem.W.findIn K (.ref E_NoNames) "__getattribute__" = some (some (.builtin "BaseException.__getattribute__")))
    (gg_NoNames : PySem.W.findIn K (.ref E_NoNames) "__getattr__" = some none)
    (hd_NoNames : PySem.W.hasDictIn K E_NoNames = true)
    (ic_NoNames : PySem.W.findIn K (.ref E_NoNames) "__init__" = some (some (.ref F_NoNames)))
    (ti_NoNames : PySem.W.typeIn K (.ref F_NoNames) = some (.type "function"))
    (l_NoNames : ∃ fd, Fun K "__init__" "NoNames.__init__" s_NoNames_init F_NoNames fd)
    (rd_NoNames : PySem.W.readsIn K B_NoNames (.type "type") = true)
    (rg_NoNames : PySem.W.specialIn K (.ref B_NoNames) "__getattribute__" = some (some (.builtin "type.__getattribute__")))
    (v0_NoNames : PySem.W.findCls K (.ref B_NoNames) (.type "type") "__init__" = some (.val (.builtin "ValueError.__init__")))
    (s_NoNames_NoNames : PySem.W.subIn K (.ref E_NoNames) (.ref E_NoNames) = some true)
    (a_f__law_cell : PySem.W.nsIn K mainGlobals "_law_cell" = some (some (.ref f__law_cell)))
    (l_f__law_cell : ∃ fd, Fun K "_law_cell" "_law_cell" s__law_cell f__law_cell fd)
    (a_f__law_mixed : PySem.W.nsIn K mainGlobals "_law_mixed" = some (some (.ref f__law_mixed)))
    (l_f__law_mixed : ∃ fd, Fun K "_law_mixed" "_law_mixed" s__law_mixed f__law_mixed fd)
    (a_f__law_digits : PySem.W.nsIn K mainGlobals "_law_digits" = some (some (.ref f__law_digits)))
    (l_f__law_digits : ∃ fd, Fun K "_law_digits" "_law_digits" s__law_digits f__law_digits fd)
    (a_f__law_left : PySem.W.nsIn K mainGlobals "_law_left" = some (some (.ref f__law_left)))
    (l_f__law_left : ∃ fd, Fun K "_law_left" "_law_left" s__law_left f__law_left fd)
    (a_f__law_pages : PySem.W.nsIn K mainGlobals "_law_pages" = some (some (.ref f__law_pages)))
    (l_f__law_pages : ∃ fd, Fun K "_law_pages" "_law_pages" s__law_pages f__law_pages fd)
    (a_f__law_block : PySem.W.nsIn K mainGlobals "_law_block" = some (some (.ref f__law_block)))
    (l_f__law_block : ∃ fd, Fun K "_law_block" "_law_block" s__law_block f__law_block fd)
    (a_f__law_drawn : PySem.W.nsIn K mainGlobals "_law_drawn" = some (some (.ref f__law_drawn)))
    (l_f__law_drawn : ∃ fd, Fun K "_law_drawn" "_law_drawn" s__law_drawn f__law_drawn fd)
    (a_f__law_small_left : PySem.W.nsIn K mainGlobals "_law_small_left" = some (some (.ref f__law_small_left)))
    (l_f__law_small_left : ∃ fd, Fun K "_law_small_left" "_law_small_left" s__law_small_left f__law_small_left fd)
    (a_f__law_small : PySem.W.nsIn K mainGlobals "_law_small" = some (some (.ref f__law_small)))
    (l_f__law_small : ∃ fd, Fun K "_law_small" "_law_small" s__law_small f__law_small fd)
    (a_f__law_any_stand : PySem.W.nsIn K mainGlobals "_law_any_stand" = some (some (.ref f__law_any_stand)))
    (l_f__law_any_stand : ∃ fd, Fun K "_law_any_stand" "_law_any_stand" s__law_any_stand f__law_any_stand fd)
    (a_f_is_whole : PySem.W.nsIn K mainGlobals "is_whole" = some (some (.ref f_is_whole)))
    (l_f_is_whole : ∃ fd, Fun K "is_whole" "is_whole" s_is_whole f_is_whole fd)
    (a_f_is_left : PySem.W.nsIn K mainGlobals "is_left" = some (some (.ref f_is_left)))
    (l_f_is_left : ∃ fd, Fun K "is_left" "is_left" s_is_left f_is_left fd)
    (a_f_is_key : PySem.W.nsIn K mainGlobals "is_key" = some (some (.ref f_is_key)))
    (l_f_is_key : ∃ fd, Fun K "is_key" "is_key" s_is_key f_is_key fd)
    (a_f_is_block : PySem.W.nsIn K mainGlobals "is_block" = some (some (.ref f_is_block)))
    (l_f_is_block : ∃ fd, Fun K "is_block" "is_block" s_is_block f_is_block fd)
    (a_f_are_blocks : PySem.W.nsIn K mainGlobals "are_blocks" = some (some (.ref f_are_blocks)))
    (l_f_are_blocks : ∃ fd, Fun K "are_blocks" "are_blocks" s_are_blocks f_are_blocks fd)
    (a_f_wrong_part : PySem.W.nsIn K mainGlobals "wrong_part" = some (some (.ref f_wrong_part)))
    (l_f_wrong_part : ∃ fd, Fun K "wrong_part" "wrong_part" s_wrong_part f_wrong_part fd)
    (a_f_Stand_init : PySem.W.findIn K (.ref C_Stand) "__init__" = some (some (.ref f_Stand_init)))
    (i_f_Stand_init : PySem.W.isFn K (.ref f_Stand_init) = true)
    (l_f_Stand_init : ∃ fd, Fun K "__init__" "Stand.__init__" s_Stand_init f_Stand_init fd)
    (a_f__law_stand : PySem.W.nsIn K mainGlobals "_law_stand" = some (some (.ref f__law_stand)))
    (l_f__law_stand : ∃ fd, Fun K "_law_stand" "_law_stand" s__law_stand f__law_stand fd)
    (a_f__law_order : PySem.W.nsIn K mainGlobals "_law_order" = some (some (.ref f__law_order)))
    (l_f__law_order : ∃ fd, Fun K "_law_order" "_law_order" s__law_order f__law_order fd)
    (a_f_Stand_shape : PySem.W.findIn K (.ref C_Stand) "shape" = some (some (.ref f_Stand_shape)))
    (i_f_Stand_shape : PySem.W.isFn K (.ref f_Stand_shape) = true)
    (l_f_Stand_shape : ∃ fd, Fun K "shape" "Stand.shape" s_Stand_shape f_Stand_shape fd)
    (a_f_Stand_blocks : PySem.W.findIn K (.ref C_Stand) "blocks" = some (some (.ref f_Stand_blocks)))
    (i_f_Stand_blocks : PySem.W.isFn K (.ref f_Stand_blocks) = true)
    (l_f_Stand_blocks : ∃ fd, Fun K "blocks" "Stand.blocks" s_Stand_blocks f_Stand_blocks fd)
    (a_f_is_count : PySem.W.nsIn K mainGlobals "is_count" = some (some (.ref f_is_count)))
    (l_f_is_count : ∃ fd, Fun K "is_count" "is_count" s_is_count f_is_count fd)
    (a_f_is_order : PySem.W.nsIn K mainGlobals "is_order" = some (some (.ref f_is_order)))
    (l_f_is_order : ∃ fd, Fun K "is_order" "is_order" s_is_order f_is_order fd)
    (a_f_Stand_many : PySem.W.findIn K (.ref C_Stand) "many" = some (some (.ref f_Stand_many)))
    (i_f_Stand_many : PySem.W.isFn K (.ref f_Stand_many) = true)
    (l_f_Stand_many : ∃ fd, Fun K "many" "Stand.many" s_Stand_many f_Stand_many fd)
    (a_f_Stand_fails : PySem.W.findIn K (.ref C_Stand) "fails" = some (some (.ref f_Stand_fails)))
    (i_f_Stand_fails : PySem.W.isFn K (.ref f_Stand_fails) = true)
    (l_f_Stand_fails : ∃ fd, Fun K "fails" "Stand.fails" s_Stand_fails f_Stand_fails fd)
    (a_f_Stand_cuts : PySem.W.findIn K (.ref C_Stand) "cuts" = some (some (.ref f_Stand_cuts)))
    (i_f_Stand_cuts : PySem.W.isFn K (.ref f_Stand_cuts) = true)
    (l_f_Stand_cuts : ∃ fd, Fun K "cuts" "Stand.cuts" s_Stand_cuts f_Stand_cuts fd)
    (a_f_Stand_asked : PySem.W.findIn K (.ref C_Stand) "asked" = some (some (.ref f_Stand_asked)))
    (i_f_Stand_asked : PySem.W.isFn K (.ref f_Stand_asked) = true)
    (l_f_Stand_asked : ∃ fd, Fun K "asked" "Stand.asked" s_Stand_asked f_Stand_asked fd)
    (a_f_renamed : PySem.W.nsIn K mainGlobals "renamed" = some (some (.ref f_renamed)))
    (l_f_renamed : ∃ fd, Fun K "renamed" "renamed" s_renamed f_renamed fd)
    (a_f__law_told : PySem.W.nsIn K mainGlobals "_law_told" = some (some (.ref f__law_told)))
    (l_f__law_told : ∃ fd, Fun K "_law_told" "_law_told" s__law_told f__law_told fd)
    (a_f__law_renamed : PySem.W.nsIn K mainGlobals "_law_renamed" = some (some (.ref f__law_renamed)))
    (l_f__law_renamed : ∃ fd, Fun K "_law_renamed" "_law_renamed" s__law_renamed f__law_renamed fd)
    (a_f__law_same : PySem.W.nsIn K mainGlobals "_law_same" = some (some (.ref f__law_same)))
    (l_f__law_same : ∃ fd, Fun K "_law_same" "_law_same" s__law_same f__law_same fd)
    (a_f__law_odd : PySem.W.nsIn K mainGlobals "_law_odd" = some (some (.ref f__law_odd)))
    (l_f__law_odd : ∃ fd, Fun K "_law_odd" "_law_odd" s__law_odd f__law_odd fd)
    (a_f__law_order_bent : PySem.W.nsIn K mainGlobals "_law_order_bent" = some (some (.ref f__law_order_bent)))
    (l_f__law_order_bent : ∃ fd, Fun K "_law_order_bent" "_law_order_bent" s__law_order_bent f__law_order_bent fd)
    (a_f__law_is_int : PySem.W.nsIn K mainGlobals "_law_is_int" = some (some (.ref f__law_is_int)))
    (l_f__law_is_int : ∃ fd, Fun K "_law_is_int" "_law_is_int" s__law_is_int f__law_is_int fd)
    (a_f__law_is_order : PySem.W.nsIn K mainGlobals "_law_is_order" = some (some (.ref f__law_is_order)))
    (l_f__law_is_order : ∃ fd, Fun K "_law_is_order" "_law_is_order" s__law_is_order f__law_is_order fd)
    (a_f__law_due : PySem.W.nsIn K mainGlobals "_law_due" = some (some (.ref f__law_due)))
    (l_f__law_due : ∃ fd, Fun K "_law_due" "_law_due" s__law_due f__law_due fd)
    (a_f_law : PySem.W.nsIn K mainGlobals "law" = some (some (.ref f_law)))
    (l_f_law : ∃ fd, Fun K "law" "law" s_law f_law fd) :
    ∃ fd : FuncData, (∀ (s : Shared) (v : Value), BindsTo s fd ⟨[v], []⟩ [("script", v)]) ∧ ∀ base : Heap, K.In base → base.Ns mainGlobals mg → FnOk P w K mg base (L2.CX P w) 10 fa fd ["script"] (spLaw K) := by
  have e : fa = f_law := by
    have e := hfa.symm.trans (PySem.W.mg_of X G a_f_law)
    cases e
    rfl
  rw [e]
  obtain ⟨d_NoNames_init, Fi_NoNames⟩ := l_NoNames
  have eq_NoNames : ∃ A : FldAt K mg "NoNames" "SpentError" "part" "NoNames.__init__" s_NoNames_init ["self", "part"], A.C = E_NoNames := ⟨⟨E_NoNames, B_NoNames, F_NoNames, d_NoNames_init, PySem.W.mg_of X G g_NoNames, PySem.W.mg_of X G g0_NoNames, ⟨ox_NoNames, sa_NoNames, be_NoNames, te_NoNames, ke_NoNames⟩, no_NoNames, ⟨ga_NoNames, gg_NoNames, be_NoNames, hd_NoNames⟩, ic_NoNames, ti_NoNames, Fi_NoNames, Fi_NoNames.binds (ps := ["self", "part"]) fun _ _ _ _ _ _ us hl => match us, hl with | [_, _], _ => rfl, ⟨rd_NoNames, rg_NoNames⟩, v0_NoNames⟩, rfl⟩
  obtain ⟨Ex_NoNames, q_NoNames⟩ := eq_NoNames
  obtain ⟨d__law_cell, F__law_cell⟩ := l_f__law_cell
  obtain ⟨d__law_mixed, F__law_mixed⟩ := l_f__law_mixed
  obtain ⟨d__law_digits, F__law_digits⟩ := l_f__law_digits
  obtain ⟨d__law_left, F__law_left⟩ := l_f__law_left
  obtain ⟨d__law_pages, F__law_pages⟩ := l_f__law_pages
  obtain ⟨d__law_block, F__law_block⟩ := l_f__law_block
  obtain ⟨d__law_drawn, F__law_drawn⟩ := l_f__law_drawn
  obtain ⟨d__law_small_left, F__law_small_left⟩ := l_f__law_small_left
  obtain ⟨d__law_small, F__law_small⟩ := l_f__law_small
  obtain ⟨d__law_any_stand, F__law_any_stand⟩ := l_f__law_any_stand
  obtain ⟨d_is_whole, F_is_whole⟩ := l_f_is_whole
  obtain ⟨d_is_left, F_is_left⟩ := l_f_is_left
  obtain ⟨d_is_key, F_is_key⟩ := l_f_is_key
  obtain ⟨d_is_block, F_is_block⟩ := l_f_is_block
  obtain ⟨d_are_blocks, F_are_blocks⟩ := l_f_are_blocks
  obtain ⟨d_wrong_part, F_wrong_part⟩ := l_f_wrong_part
  obtain ⟨d_Stand_init, F_Stand_init⟩ := l_f_Stand_init
  obtain ⟨d__law_stand, F__law_stand⟩ := l_f__law_stand
  obtain ⟨d__law_order, F__law_order⟩ := l_f__law_order
  obtain ⟨d_Stand_shape, F_Stand_shape⟩ := l_f_Stand_shape
  obtain ⟨d_Stand_blocks, F_Stand_blocks⟩ := l_f_Stand_blocks
  obtain ⟨d_is_count, F_is_count⟩ := l_f_is_count
  obtain ⟨d_is_order, F_is_order⟩ := l_f_is_order
  obtain ⟨d_Stand_many, F_Stand_many⟩ := l_f_Stand_many
  obtain ⟨d_Stand_fails, F_Stand_fails⟩ := l_f_Stand_fails
  obtain ⟨d_Stand_cuts, F_Stand_cuts⟩ := l_f_Stand_cuts
  obtain ⟨d_Stand_asked, F_Stand_asked⟩ := l_f_Stand_asked
  obtain ⟨d_renamed, F_renamed⟩ := l_f_renamed
  obtain ⟨d__law_told, F__law_told⟩ := l_f__law_told
  obtain ⟨d__law_renamed, F__law_renamed⟩ := l_f__law_renamed
  obtain ⟨d__law_same, F__law_same⟩ := l_f__law_same
  obtain ⟨d__law_odd, F__law_odd⟩ := l_f__law_odd
  obtain ⟨d__law_order_bent, F__law_order_bent⟩ := l_f__law_order_bent
  obtain ⟨d__law_is_int, F__law_is_int⟩ := l_f__law_is_int
  obtain ⟨d__law_is_order, F__law_is_order⟩ := l_f__law_is_order
  obtain ⟨d__law_due, F__law_due⟩ := l_f__law_due
  obtain ⟨d_law, F_law⟩ := l_f_law
  have T : ∃ T : Txt K mg, T.f_law.f = f_law ∧ T.f_law.fd = d_law := ⟨{
    b_all := PySem.W.mg_none_of X G b_all
    b_any := PySem.W.mg_none_of X G b_any
    b_bool := PySem.W.mg_none_of X G b_bool
    b_enumerate := PySem.W.mg_none_of X G b_enumerate
    b_int := PySem.W.mg_none_of X G b_int
    b_isinstance := PySem.W.mg_none_of X G b_isinstance
    b_len := PySem.W.mg_none_of X G b_len
    b_list := PySem.W.mg_none_of X G b_list
    b_range := PySem.W.mg_none_of X G b_range
    b_set := PySem.W.mg_none_of X G b_set
    b_sorted := PySem.W.mg_none_of X G b_sorted
    b_str := PySem.W.mg_none_of X G b_str
    b_tuple := PySem.W.mg_none_of X G b_tuple
    c_MOST_BLOCKS := ⟨_, PySem.W.mg_of X G c_MOST_BLOCKS⟩
    c_MOST_KEYS := ⟨_, PySem.W.mg_of X G c_MOST_KEYS⟩
    c_MOST_LEFT := ⟨_, PySem.W.mg_of X G c_MOST_LEFT⟩
    c_MOST_LOSSES := ⟨_, PySem.W.mg_of X G c_MOST_LOSSES⟩
    c_MOST_PAGES := ⟨_, PySem.W.mg_of X G c_MOST_PAGES⟩
    k_Stand := ⟨C_Stand, PySem.W.mg_of X G a_Stand, ⟨pg_Stand, hd_Stand, po_Stand, sa_Stand⟩⟩
    na_Stand__shape := na_Stand__shape
    q_NoNames := Ex_NoNames
    x_NoNames_NoNames := PySem.W.exm_ref Ex_NoNames.ox.exC Ex_NoNames.xf.hdC Ex_NoNames.ox.tyC (by first | (rw [q_NoNames, q_NoNames]; exact s_NoNames_NoNames) | (rw [q_NoNames]; exact s_NoNames_NoNames))
    f__law_cell := ⟨f__law_cell, d__law_cell, F__law_cell, PySem.W.mg_of X G a_f__law_cell, F__law_cell.binds (ps := ["script", "k"]) fun _ _ _ _ _ _ us hl => match us, hl with | [_, _], _ => rfl⟩
    f__law_mixed := ⟨f__law_mixed, d__law_mixed, F__law_mixed, PySem.W.mg_of X G a_f__law_mixed, F__law_mixed.binds (ps := ["cell", "k"]) fun _ _ _ _ _ _ us hl => match us, hl with | [_, _], _ => rfl⟩
    f__law_digits := ⟨f__law_digits, d__law_digits, F__law_digits, PySem.W.mg_of X G a_f__law_digits, F__law_digits.binds (ps := ["cell", "sizes"]) fun _ _ _ _ _ _ us hl => match us, hl with | [_, _], _ => rfl⟩
    f__law_left := ⟨f__law_left, d__law_left, F__law_left, PySem.W.mg_of X G a_f__law_left, F__law_left.binds (ps := ["digit"]) fun _ _ _ _ _ _ us hl => match us, hl with | [_], _ => rfl⟩
    f__law_pages := ⟨f__law_pages, d__law_pages, F__law_pages, PySem.W.mg_of X G a_f__law_pages, F__law_pages.binds (ps := ["digits", "rest", "pages", "written"]) fun _ _ _ _ _ _ us hl => match us, hl with | [_, _, _, _], _ => rfl⟩
    f__law_block := ⟨f__law_block, d__law_block, F__law_block, PySem.W.mg_of X G a_f__law_block, F__law_block.binds (ps := ["cell", "rest", "pages"]) fun _ _ _ _ _ _ us hl => match us, hl with | [_, _, _], _ => rfl⟩
    f__law_drawn := ⟨f__law_drawn, d__law_drawn, F__law_drawn, PySem.W.mg_of X G a_f__law_drawn, F__law_drawn.binds (ps := ["script", "at"]) fun _ _ _ _ _ _ us hl => match us, hl with | [_, _], _ => rfl⟩
    f__law_small_left := ⟨f__law_small_left, d__law_small_left, F__law_small_left, PySem.W.mg_of X G a_f__law_small_left, F__law_small_left.binds (ps := ["digit"]) fun _ _ _ _ _ _ us hl => match us, hl with | [_], _ => rfl⟩
    f__law_small := ⟨f__law_small, d__law_small, F__law_small, PySem.W.mg_of X G a_f__law_small, F__law_small.binds (ps := ["script", "at", "most_fails", "most_cuts"]) fun _ _ _ _ _ _ us hl => match us, hl with | [_, _, _, _], _ => rfl⟩
    f__law_any_stand := ⟨f__law_any_stand, d__law_any_stand, F__law_any_stand, PySem.W.mg_of X G a_f__law_any_stand, F__law_any_stand.binds (ps := ["script", "at"]) fun _ _ _ _ _ _ us hl => match us, hl with | [_, _], _ => rfl⟩
    f_is_whole := ⟨f_is_whole, d_is_whole, F_is_whole, PySem.W.mg_of X G a_f_is_whole, F_is_whole.binds (ps := ["thing", "low", "high"]) fun _ _ _ _ _ _ us hl => match us, hl with | [_, _, _], _ => rfl⟩
    f_is_left := ⟨f_is_left, d_is_left, F_is_left, PySem.W.mg_of X G a_f_is_left, F_is_left.binds (ps := ["left"]) fun _ _ _ _ _ _ us hl => match us, hl with | [_], _ => rfl⟩
    f_is_key := ⟨f_is_key, d_is_key, F_is_key, PySem.W.mg_of X G a_f_is_key, F_is_key.binds (ps := ["thing", "keys"]) fun _ _ _ _ _ _ us hl => match us, hl with | [_, _], _ => rfl⟩
    f_is_block := ⟨f_is_block, d_is_block, F_is_block, PySem.W.mg_of X G a_f_is_block, F_is_block.binds (ps := ["block", "keys"]) fun _ _ _ _ _ _ us hl => match us, hl with | [_, _], _ => rfl⟩
    f_are_blocks := ⟨f_are_blocks, d_are_blocks, F_are_blocks, PySem.W.mg_of X G a_f_are_blocks, F_are_blocks.binds (ps := ["blocks", "keys"]) fun _ _ _ _ _ _ us hl => match us, hl with | [_, _], _ => rfl⟩
    f_wrong_part := ⟨f_wrong_part, d_wrong_part, F_wrong_part, PySem.W.mg_of X G a_f_wrong_part, F_wrong_part.binds (ps := ["keys", "blocks", "fails", "cuts", "asked"]) fun _ _ _ _ _ _ us hl => match us, hl with | [_, _, _, _, _], _ => rfl⟩
    f_Stand_init := ⟨f_Stand_init, d_Stand_init, F_Stand_init, ⟨mk_Stand, a_f_Stand_init, i_f_Stand_init, kc_Stand⟩, bindsK (n := 5) F_Stand_init fun _ _ _ _ _ _ us ws h1 h2 => match us, ws, h1, h2 with | [_, _, _, _, _], [_], _, _ => rfl⟩
    f__law_stand := ⟨f__law_stand, d__law_stand, F__law_stand, PySem.W.mg_of X G a_f__law_stand, F__law_stand.binds (ps := ["shape"]) fun _ _ _ _ _ _ us hl => match us, hl with | [_], _ => rfl⟩
    f__law_order := ⟨f__law_order, d__law_order, F__law_order, PySem.W.mg_of X G a_f__law_order, F__law_order.binds (ps := ["cell", "size"]) fun _ _ _ _ _ _ us hl => match us, hl with | [_, _], _ => rfl⟩
    f_Stand_shape := ⟨f_Stand_shape, d_Stand_shape, F_Stand_shape, ⟨a_f_Stand_shape, i_f_Stand_shape, F_Stand_shape.kp⟩, F_Stand_shape.binds (ps := ["self"]) fun _ _ _ _ _ _ us hl => match us, hl with | [_], _ => rfl⟩
    f_Stand_blocks := ⟨f_Stand_blocks, d_Stand_blocks, F_Stand_blocks, ⟨a_f_Stand_blocks, i_f_Stand_blocks, F_Stand_blocks.kp⟩, F_Stand_blocks.binds (ps := ["self"]) fun _ _ _ _ _ _ us hl => match us, hl with | [_], _ => rfl⟩
    f_is_count := ⟨f_is_count, d_is_count, F_is_count, PySem.W.mg_of X G a_f_is_count, F_is_count.binds (ps := ["thing"]) fun _ _ _ _ _ _ us hl => match us, hl with | [_], _ => rfl⟩
    f_is_order := ⟨f_is_order, d_is_order, F_is_order, PySem.W.mg_of X G a_f_is_order, F_is_order.binds (ps := ["order", "many"]) fun _ _ _ _ _ _ us hl => match us, hl with | [_, _], _ => rfl⟩
    f_Stand_many := ⟨f_Stand_many, d_Stand_many, F_Stand_many, ⟨a_f_Stand_many, i_f_Stand_many, F_Stand_many.kp⟩, F_Stand_many.binds (ps := ["self"]) fun _ _ _ _ _ _ us hl => match us, hl with | [_], _ => rfl⟩
    f_Stand_fails := ⟨f_Stand_fails, d_Stand_fails, F_Stand_fails, ⟨a_f_Stand_fails, i_f_Stand_fails, F_Stand_fails.kp⟩, F_Stand_fails.binds (ps := ["self"]) fun _ _ _ _ _ _ us hl => match us, hl with | [_], _ => rfl⟩
    f_Stand_cuts := ⟨f_Stand_cuts, d_Stand_cuts, F_Stand_cuts, ⟨a_f_Stand_cuts, i_f_Stand_cuts, F_Stand_cuts.kp⟩, F_Stand_cuts.binds (ps := ["self"]) fun _ _ _ _ _ _ us hl => match us, hl with | [_], _ => rfl⟩
    f_Stand_asked := ⟨f_Stand_asked, d_Stand_asked, F_Stand_asked, ⟨a_f_Stand_asked, i_f_Stand_asked, F_Stand_asked.kp⟩, F_Stand_asked.binds (ps := ["self"]) fun _ _ _ _ _ _ us hl => match us, hl with | [_], _ => rfl⟩
    f_renamed := ⟨f_renamed, d_renamed, F_renamed, PySem.W.mg_of X G a_f_renamed, F_renamed.binds (ps := ["stand", "blocks", "keys"]) fun _ _ _ _ _ _ us hl => match us, hl with | [_, _, _], _ => rfl⟩
    f__law_told := ⟨f__law_told, d__law_told, F__law_told, PySem.W.mg_of X G a_f__law_told, F__law_told.binds (ps := ["stand", "blocks", "keys"]) fun _ _ _ _ _ _ us hl => match us, hl with | [_, _, _], _ => rfl⟩
    f__law_renamed := ⟨f__law_renamed, d__law_renamed, F__law_renamed, PySem.W.mg_of X G a_f__law_renamed, F__law_renamed.binds (ps := ["shape", "blocks", "keys"]) fun _ _ _ _ _ _ us hl => match us, hl with | [_, _, _], _ => rfl⟩
    f__law_same := ⟨f__law_same, d__law_same, F__law_same, PySem.W.mg_of X G a_f__law_same, F__law_same.binds (ps := ["got", "due"]) fun _ _ _ _ _ _ us hl => match us, hl with | [_, _], _ => rfl⟩
    f__law_odd := ⟨f__law_odd, d__law_odd, F__law_odd, PySem.W.mg_of X G a_f__law_odd, F__law_odd.binds (ps := ["digit"]) fun _ _ _ _ _ _ us hl => match us, hl with | [_], _ => rfl⟩
    f__law_order_bent := ⟨f__law_order_bent, d__law_order_bent, F__law_order_bent, PySem.W.mg_of X G a_f__law_order_bent, F__law_order_bent.binds (ps := ["order", "cell"]) fun _ _ _ _ _ _ us hl => match us, hl with | [_, _], _ => rfl⟩
    f__law_is_int := ⟨f__law_is_int, d__law_is_int, F__law_is_int, PySem.W.mg_of X G a_f__law_is_int, F__law_is_int.binds (ps := ["thing", "low", "high"]) fun _ _ _ _ _ _ us hl => match us, hl with | [_, _, _], _ => rfl⟩
    f__law_is_order := ⟨f__law_is_order, d__law_is_order, F__law_is_order, PySem.W.mg_of X G a_f__law_is_order, F__law_is_order.binds (ps := ["thing", "size"]) fun _ _ _ _ _ _ us hl => match us, hl with | [_, _], _ => rfl⟩
    f__law_due := ⟨f__law_due, d__law_due, F__law_due, PySem.W.mg_of X G a_f__law_due, F__law_due.binds (ps := ["shape", "blocks", "keys"]) fun _ _ _ _ _ _ us hl => match us, hl with | [_, _, _], _ => rfl⟩
    f_law := ⟨f_law, d_law, F_law, PySem.W.mg_of X G a_f_law, F_law.binds (ps := ["script"]) fun _ _ _ _ _ _ us hl => match us, hl with | [_], _ => rfl⟩ }, rfl, rfl⟩
  obtain ⟨T, e1, e2⟩ := T
  refine ⟨d_law, bind1 F_law fun _ _ _ _ _ _ _ => rfl, fun base _ _ => ?_⟩
  have ok := ok_law (P := P) (w := w) (base := base) T
  rw [e1, e2] at ok
  exact ok.imp (law_imp LT)

end Sh.k09

/-! from Q03 -/
set_option linter.all false
set_option maxRecDepth 100000
namespace Sh.k09
open PySem L2 PyProof.Rows Sh
def leftD (d : Int) : D := if d < 10 then .non else if d < 20 then .str "ever" else if d < 120 then .int (d - 20) else .int (d % 3)
theorem x_left (d : Int) (h : Hm) : m__law_left [.int d] h = .ok (leftD d) h := by
  simp [m__law_left, x_run, g__law_left, leftD]
def mixed (c k : Int) : Int :=
  let a := (c + 7919 * k + 1) * 48271 % 2147483647
  let b := a * (a / 1009 + 69621) % 2147483647
  b * (b / 2003 + 40692) % 2147483399
theorem x_mixed (c k : Int) (h : Hm) : m__law_mixed [.int c, .int k] h = .ok (.int (mixed c k)) h := by
  have b1 : 0 ≤ (c + 7919 * k + 1) * 48271 % 2147483647 ∧ (c + 7919 * k + 1) * 48271 % 2147483647 < 2147483647 := ⟨Int.emod_nonneg _ (by decide), Int.emod_lt_of_pos _ (by decide)⟩
  simp [m__law_mixed, x_run, g__law_mixed, mixed]
  generalize (c + 7919 * k + 1) * 48271 % 2147483647 = a at b1
  rw [o_mulL (by omega) (by omega)]
  simp
  have b2 : 0 ≤ a * (a / 1009 + 69621) % 2147483647 ∧ a * (a / 1009 + 69621) % 2147483647 < 2147483647 := ⟨Int.emod_nonneg _ (by decide), Int.emod_lt_of_pos _ (by decide)⟩
  generalize a * (a / 1009 + 69621) % 2147483647 = b at b2
  rw [o_mulL (by omega) (by omega)]
  simp
theorem mixed_pos (c k : Int) : 0 ≤ mixed c k ∧ mixed c k < 2147483399 := ⟨Int.emod_nonneg _ (by decide), Int.emod_lt_of_pos _ (by decide)⟩
theorem ix_scl (ns : List Int) (k : Int) (h : Hm) (h0 : 0 ≤ k) (hk : k < ns.length) : ∃ z, dIx (.scl (ns.map D.int)) (.int k) h = .ok (.int z) h := by
  obtain ⟨j, rfl⟩ := Int.eq_ofNat_of_zero_le h0
  have hj : j < ns.length := by omega
  have e : atI (ns.map D.int) ((j : Nat) : Int) = some (.int ns[j]) := by
    unfold atI ixN
    simp [hj]
  exact ⟨ns[j], by simp [dIx, items, e]⟩
theorem x_cell (ns : List Int) (k : Int) (h : Hm) (hk0 : 0 ≤ k) : ∃ c : Int, m__law_cell [.scl (ns.map D.int), .int k] h = .ok (.int c) h := by
  simp only [m__law_cell, x_run, g__law_cell]
  simp
  by_cases hk : k < ns.length
  · obtain ⟨z, e⟩ := ix_scl ns k h hk0 hk
    simp [hk, e]
  · simp only [hk, if_false]
    by_cases h0 : 0 < ns.length
    · obtain ⟨z, e⟩ := ix_scl ns 0 h (by decide) (by omega)
      simp only [h0, if_true, e, RD.bind_ok, o_int, RD.st_ok, seq_nx]
      refine ⟨(z + 7919 * k) * 48271 % 2147483647, ?_⟩
      simp only [x_ret, x_bin, x_args, evR_cons, evR_nil, x_var, x_c, List.getElem?_cons_zero, List.getElem?_cons_succ, ofO_some, RD.bind_ok, o_mul7919, o_add, o_mul48271, o_int, RD.st_ok, out_rt, o_mod, seq_nx, seq_rt]
      rfl
    · simp only [h0, if_false]
      exact ⟨_, rfl⟩
def Dig : List Int → List Int → Prop
  | [], [] => True
  | d :: ds, z :: zs => (0 ≤ d ∧ d < z) ∧ Dig ds zs
  | _, _ => False
theorem dig_loop1 (h : Hm) (n : Nat) (all : List Int) (hn : h[n]? = some (.lst (all.map D.int))) (x4 : Option D) : ∀ (zs : List Int) (c : Int) (x3 : Option D) (acc : List Int), (∀ z ∈ zs, 0 < z ∧ z < 1000000) → acc.length + zs.length < 1000 →
    ∃ ds c' x3', Dig ds zs ∧ loopG (some (n, all.map D.int)) (tName 3) (gSeq (gDrop (eLm lAppend (eVar 2) [(eBin dMod (eArgs bInt [(eVar 0)]) (eVar 3))])) (gSet 0 (eBin dDiv (eVar 0) (eVar 3)))) (zs.map D.int)
      [some (.int c), some (.ref n), some (.ref h.length), x3, x4] (h ++ [.lst (acc.map D.int)]) = .nx [some (.int c'), some (.ref n), some (.ref h.length), x3', x4] (h ++ [.lst ((acc ++ ds).map D.int)])
  | [], c, x3, acc, _, _ => ⟨[], c, x3, trivial, by
      rw [List.map_nil, loop_nil (chk_ref (by rw [get_old (lt_of_get hn)]; exact hn)), List.append_nil]⟩
  | z :: zs, c, x3, acc, hz, hl => by
    have z0 := hz z (List.mem_cons_self ..)
    simp only [List.length_cons] at hl
    obtain ⟨ds, c', x3', e1, e2⟩ := dig_loop1 h n all hn x4 zs (c / z) (some (.int z)) (acc ++ [c % z]) (fun y hy => hz y (List.mem_cons_of_mem _ hy)) (by simp; omega)
    refine ⟨c % z :: ds, c', x3', ⟨⟨Int.emod_nonneg _ (by omega), Int.emod_lt_of_pos _ z0.1⟩, e1⟩, ?_⟩
    rw [List.map_cons, loop_cons (chk_ref (by rw [get_old (lt_of_get hn)]; exact hn)) (s1 := [some (.int c), some (.ref n), some (.ref h.length), some (.int z), x4]) (h1 := h ++ [.lst (acc.map D.int)]) rfl]
    rw [x_seq, x_drop, app_last (d := .int (c % z)) (by simp) (by simp [z0.1]) (by simp; omega)]
    simp only [RD.st_ok, seq_nx, x_set, x_bin, x_var, List.getElem?_cons_zero, List.getElem?_cons_succ, ofO_some, RD.bind_ok, o_div z0.1 (show z < 18446744073709551616 by omega), List.set_cons_zero, lp_nx]
    have e3 : acc.map D.int ++ [D.int (c % z)] = (acc ++ [c % z]).map D.int := by simp
    rw [e3, e2, List.append_assoc]
    rfl
theorem dig_loop2 (h : Hm) (n : Nat) (all : List Int) (hn : h[n]? = some (.lst (all.map D.int))) (c : Int) (x3 : Option D) : ∀ (zs pre : List Int) (x4 : Option D) (acc : List Int), all = pre ++ zs → (∀ z ∈ zs, 0 < z ∧ z < 1000000) → acc.length + zs.length < 1000 →
    ∃ ds x4', Dig ds zs ∧ loopG none (tName 4) (gDrop (eLm lAppend (eVar 2) [(eBin dMod (eArgs bInt [(eBin dDiv (eArgs m__law_mixed [(eVar 0), (eVar 4)]) (eC (.int 16)))]) (eBin dIx (eVar 1) (eVar 4)))])) ((List.range' pre.length zs.length).map fun i => D.int (i : Nat))
      [some (.int c), some (.ref n), some (.ref h.length), x3, x4] (h ++ [.lst (acc.map D.int)]) = .nx [some (.int c), some (.ref n), some (.ref h.length), x3, x4'] (h ++ [.lst ((acc ++ ds).map D.int)])
  | [], pre, x4, acc, _, _, _ => ⟨[], x4, trivial, by
      simp only [List.length_nil, List.range'_zero, List.map_nil]
      rw [loop_nil chk_none, List.append_nil]⟩
  | z :: zs, pre, x4, acc, ha, hz, hl => by
    have z0 := hz z (List.mem_cons_self ..)
    simp only [List.length_cons] at hl
    obtain ⟨ds, x4', e1, e2⟩ := dig_loop2 h n all hn c x3 zs (pre ++ [z]) (some (.int pre.length)) (acc ++ [mixed c pre.length / 16 % z]) (by rw [ha, List.append_assoc]; rfl) (fun y hy => hz y (List.mem_cons_of_mem _ hy)) (by simp; omega)
    refine ⟨mixed c pre.length / 16 % z :: ds, x4', ⟨⟨Int.emod_nonneg _ (by omega), Int.emod_lt_of_pos _ z0.1⟩, e1⟩, ?_⟩
    rw [List.length_cons, List.range'_succ, List.map_cons, loop_cons chk_none (s1 := [some (.int c), some (.ref n), some (.ref h.length), x3, some (.int pre.length)]) (h1 := h ++ [.lst (acc.map D.int)]) rfl]
    have hn' : (h ++ [O.lst (acc.map D.int)])[n]? = some (.lst (all.map D.int)) := by rw [get_old (lt_of_get hn)]; exact hn
    have hx : (all.map D.int)[pre.length]? = some (.int z) := by rw [ha]; simp
    rw [x_drop, app_last (d := .int (mixed c pre.length / 16 % z)) (by simp) (by simp [x_mixed, ix_ref hn' hx, z0.1]) (by simp; omega)]
    simp only [RD.st_ok, lp_nx]
    have e3 : acc.map D.int ++ [D.int (mixed c pre.length / 16 % z)] = (acc ++ [mixed c pre.length / 16 % z]).map D.int := by simp
    have e4 : pre.length + 1 = (pre ++ [z]).length := by simp
    rw [e3, e4, e2, List.append_assoc]
    rfl
theorem x_digits (h : Hm) (n : Nat) (all : List Int) (hn : h[n]? = some (.lst (all.map D.int))) (c : Int) (hz : ∀ z ∈ all, 0 < z ∧ z < 1000000) (hl : all.length < 500) :
    ∃ ds, Dig ds all ∧ m__law_digits [.int c, .ref n] h = .ok (.ref h.length) (h ++ [.lst (ds.map D.int)]) := by
  have hn' : (h ++ [O.lst []])[n]? = some (.lst (all.map D.int)) := by rw [get_old (lt_of_get hn)]; exact hn
  by_cases hc : 1000000000000000000 ≤ c
  · obtain ⟨ds, c', x3', e1, e2⟩ := dig_loop1 h n all hn none all c none [] hz (by simp; omega)
    refine ⟨ds, e1, ?_⟩
    simp only [m__law_digits, x_run, g__law_digits]
    simp [o_pow18, hc]
    rw [for_ok (fi_ref (n := n) (by simp) hn')]
    simp only [List.map_nil, List.nil_append] at e2
    rw [e2]
    simp
  · obtain ⟨ds, x4', e1, e2⟩ := dig_loop2 h n all hn c none all [] none [] rfl hz (by simp; omega)
    refine ⟨ds, e1, ?_⟩
    simp only [m__law_digits, x_run, g__law_digits]
    simp [o_pow18, hc]
    rw [for_ok (fi_rg (h1 := h ++ [.lst []]) (j := all.length) (by simp [len_ref hn']) (by omega) (by omega))]
    simp only [List.map_nil, List.nil_append, List.length_nil] at e2
    rw [Int.toNat_natCast, List.range_eq_range', e2]
    simp
end Sh.k09
/-! from Q03b -/
set_option linter.all false
set_option maxRecDepth 100000
namespace Sh.k09
open PySem L2 PyProof.Rows Sh
inductive Pg where
  | free | old | key (k : Int)
  deriving DecidableEq
def pD : Pg → D
  | .free => .str "free" | .old => .str "old" | .key k => .int k
def keysOf : List Pg → List Int
  | [] => []
  | .key k :: r => k :: keysOf r
  | _ :: r => keysOf r
theorem keysOf_app (a b : List Pg) : keysOf (a ++ b) = keysOf a ++ keysOf b := by
  induction a with
  | nil => rfl
  | cons x a ih => cases x <;> simp [keysOf, ih]
abbrev bodyP : FS := (gIf (eBin (dCmp fun i j => decide (j ≤ i)) (eVar 5) (eVar 3)) (gDrop (eLm lAppend (eVar 4) [(eC (.str "free"))])) (gIf (eOr (eBin dEq (eBin dMod (eArgs bInt [(eBin dIx (eVar 0) (eVar 5))]) (eC (.int 3))) (eC (.int 0))) (eBin dEq (eArgs bLen [(eVar 1)]) (eC (.int 0)))) (gDrop (eLm lAppend (eVar 4) [(eC (.str "old"))])) (gDrop (eLm lAppend (eVar 4) [(eLm lPopAt (eVar 1) [(eBin dMod (eArgs bInt [(eBin dDiv (eBin dIx (eVar 0) (eVar 5)) (eC (.int 3)))]) (eArgs bLen [(eVar 1)]))])]))))
theorem er_perm : ∀ (l : List Int) (i : Nat) (y : Int), l[i]? = some y → (y :: l.eraseIdx i).Perm l
  | [], i, y, e => by simp at e
  | x :: l, 0, y, e => by
    simp at e
    subst e
    exact .refl _
  | x :: l, i + 1, y, e => by
    have := er_perm l i y (by simpa using e)
    exact (List.Perm.swap x y _).trans (this.cons x)
theorem page_step (h : Hm) (nd nr k : Nat) (ds rs : List Int) (pages written : Int) (acc : List Pg) (d : Int) (hd : h[nd]? = some (.lst (ds.map D.int))) (hr : h[nr]? = some (.lst (rs.map D.int))) (hx : ds[k]? = some d) (hd0 : 0 ≤ d) (hne : nd ≠ nr) (hrl : rs.length < 1000) (hal : acc.length < 1000) :
    ∃ (p : Pg) (rs' : List Int), ((written ≤ k ∧ p = .free ∧ rs' = rs) ∨ (¬ written ≤ k ∧ (p = .old ∧ rs' = rs ∨ ∃ q, p = .key q ∧ (q :: rs').Perm rs))) ∧
      bodyP [some (.ref nd), some (.ref nr), some (.int pages), some (.int written), some (.ref h.length), some (.int k)] (h ++ [.lst (acc.map pD)]) =
        .nx [some (.ref nd), some (.ref nr), some (.int pages), some (.int written), some (.ref h.length), some (.int k)] (h.set nr (.lst (rs'.map D.int)) ++ [.lst ((acc ++ [p]).map pD)]) := by
  have hd' : (h ++ [O.lst (acc.map pD)])[nd]? = some (.lst (ds.map D.int)) := by rw [get_old (lt_of_get hd)]; exact hd
  have hr' : (h ++ [O.lst (acc.map pD)])[nr]? = some (.lst (rs.map D.int)) := by rw [get_old (lt_of_get hr)]; exact hr
  have hxx : (ds.map D.int)[k]? = some (.int d) := by rw [List.getElem?_map, hx]; rfl
  have hself : h.set nr (.lst (rs.map D.int)) = h := by
    apply List.ext_getElem?
    intro j
    by_cases hj : nr = j
    · subst hj
      rw [List.getElem?_set_self (lt_of_get hr), hr]
    · rw [List.getElem?_set_ne hj]
  have hz : (acc.map pD).length < 1000000 := by simp; omega
  by_cases hw : written ≤ k
  · refine ⟨.free, rs, .inl ⟨hw, rfl, rfl⟩, ?_⟩
    simp only [bodyP, x_if, x_bin, x_var, List.getElem?_cons_zero, List.getElem?_cons_succ, ofO_some, RD.bind_ok, o_cmp, tst_ok, decide_eq_true_eq, hw, if_true]
    rw [x_drop, app_last (d := .str "free") (by simp) (by simp) hz, hself]
    simp [pD]
  · by_cases ho : d % 3 = 0 ∨ rs.length = 0
    · refine ⟨.old, rs, .inr ⟨hw, .inl ⟨rfl, rfl⟩⟩, ?_⟩
      have e1 : (eOr (eBin dEq (eBin dMod (eArgs bInt [(eBin dIx (eVar 0) (eVar 5))]) (eC (.int 3))) (eC (.int 0))) (eBin dEq (eArgs bLen [(eVar 1)]) (eC (.int 0)))) [some (.ref nd), some (.ref nr), some (.int pages), some (.int written), some (.ref h.length), some (.int k)] (h ++ [.lst (acc.map pD)]) = .ok (.bl true) (h ++ [.lst (acc.map pD)]) := by
        simp only [x_or, x_bin, x_args, evR_cons, evR_nil, x_var, x_c, List.getElem?_cons_zero, List.getElem?_cons_succ, ofO_some, RD.bind_ok, ix_ref hd' hxx, o_int, o_mod, q_int, len_ref hr']
        rcases ho with ho | ho
        · simp [ho]
        · have hl0 : ((rs.map D.int).length : Int) = 0 := by simp; simpa using ho
          rw [if_pos (by decide : (0 : Int) < 3)]
          by_cases h3 : d % 3 = 0
          · simp [h3]
          · simp [h3, len_ref hr', hl0]
            simpa using ho
      simp only [bodyP, x_if, x_bin, x_var, List.getElem?_cons_zero, List.getElem?_cons_succ, ofO_some, RD.bind_ok, o_cmp, tst_ok, decide_eq_true_eq, hw, if_false, e1, if_true]
      rw [x_drop, app_last (d := .str "old") (by simp) (by simp) hz, hself]
      simp [pD]
    · have h3 : ¬ d % 3 = 0 := fun z => ho (.inl z)
      have hlen : 0 < rs.length := Nat.pos_of_ne_zero fun z => ho (.inr z)
      have hjl : (d / 3 % (rs.length : Int)).toNat < rs.length := by
        have a := Int.emod_lt_of_pos (d / 3) (show (0 : Int) < rs.length by omega)
        have b := Int.emod_nonneg (d / 3) (show (rs.length : Int) ≠ 0 by omega)
        omega
      generalize hj : d / 3 % (rs.length : Int) = j at hjl
      have hj0 : 0 ≤ j := by rw [← hj]; exact Int.emod_nonneg _ (by omega)
      refine ⟨.key rs[j.toNat], rs.eraseIdx j.toNat, .inr ⟨hw, .inr ⟨rs[j.toNat], rfl, er_perm _ _ _ (List.getElem?_eq_getElem hjl)⟩⟩, ?_⟩
      have e1 : (eOr (eBin dEq (eBin dMod (eArgs bInt [(eBin dIx (eVar 0) (eVar 5))]) (eC (.int 3))) (eC (.int 0))) (eBin dEq (eArgs bLen [(eVar 1)]) (eC (.int 0)))) [some (.ref nd), some (.ref nr), some (.int pages), some (.int written), some (.ref h.length), some (.int k)] (h ++ [.lst (acc.map pD)]) = .ok (.bl false) (h ++ [.lst (acc.map pD)]) := by
        have hl0 : ¬ ((rs.map D.int).length : Int) = 0 := by simp; intro z; rw [z] at hlen; simp at hlen
        simp only [x_or, x_bin, x_args, evR_cons, evR_nil, x_var, x_c, List.getElem?_cons_zero, List.getElem?_cons_succ, ofO_some, RD.bind_ok, ix_ref hd' hxx, o_int, o_mod, q_int, len_ref hr']
        rw [if_pos (by decide : (0 : Int) < 3)]
        simp only [RD.bind_ok, q_int, h3, decide_false, tb_ok, Bool.false_eq_true, if_false, len_ref hr', hl0]
      have e2 : eLm lPopAt (eVar 1) [(eBin dMod (eArgs bInt [(eBin dDiv (eBin dIx (eVar 0) (eVar 5)) (eC (.int 3)))]) (eArgs bLen [(eVar 1)]))] [some (.ref nd), some (.ref nr), some (.int pages), some (.int written), some (.ref h.length), some (.int k)] (h ++ [.lst (acc.map pD)]) =
          .ok (.int rs[j.toNat]) (h.set nr (.lst ((rs.eraseIdx j.toNat).map D.int)) ++ [.lst (acc.map pD)]) := by
        simp only [x_lm, x_var, List.getElem?_cons_zero, List.getElem?_cons_succ, ofO_some, RD.bind_ok, lmB_ref hr', evR_cons, evR_nil, x_bin, x_args, ix_ref hd' hxx, x_c, o_div3, o_int, len_ref hr', o_mod]
        have hp : (0 : Int) < ((rs.map D.int).length : Int) := by simp; omega
        rw [if_pos hp]
        simp only [RD.bind_ok, lmC_ok hr', List.length_map, hj]
        rw [pop_ok (x := .int rs[j.toNat]) hj0 (by omega) (by simp [hjl])]
        rw [List.set_append_left _ _ (lt_of_get hr), DT.map_erase]
      simp only [bodyP, x_if, x_bin, x_var, List.getElem?_cons_zero, List.getElem?_cons_succ, ofO_some, RD.bind_ok, o_cmp, tst_ok, decide_eq_true_eq, hw, if_false, e1, x_drop]
      have e3 : eLm lAppend (eVar 4) [(eLm lPopAt (eVar 1) [(eBin dMod (eArgs bInt [(eBin dDiv (eBin dIx (eVar 0) (eVar 5)) (eC (.int 3)))]) (eArgs bLen [(eVar 1)]))])] [some (.ref nd), some (.ref nr), some (.int pages), some (.int written), some (.ref h.length), some (.int k)] (h ++ [.lst (acc.map pD)]) =
          .ok .non (h.set nr (.lst ((rs.eraseIdx j.toNat).map D.int)) ++ [.lst (acc.map pD ++ [.int rs[j.toNat]])]) := by
        rw [x_lm]
        simp only [x_var, List.getElem?_cons_zero, List.getElem?_cons_succ, ofO_some, RD.bind_ok, lmB_ref (gl := lAppend) (get_last (h := h) (o := .lst (acc.map pD))), evR_cons, evR_nil, e2]
        have hL : (h.set nr (.lst ((rs.eraseIdx j.toNat).map D.int)) ++ [O.lst (acc.map pD)])[h.length]? = some (.lst (acc.map pD)) := by
          have : h.length = (h.set nr (.lst ((rs.eraseIdx j.toNat).map D.int))).length := by simp
          rw [this]
          exact get_last
        rw [lmC_ok hL, app_ok hz]
        have : h.length = (h.set nr (.lst ((rs.eraseIdx j.toNat).map D.int))).length := by simp
        rw [this, set_last]
      rw [if_neg (by decide), e3]
      simp only [RD.st_ok, List.map_append]
      rfl
theorem page_loop (nd nr : Nat) (ds : List Int) (pages : Nat) (written : Nat) (hne : nd ≠ nr) (hd0 : ∀ d ∈ ds, 0 ≤ d) (hw : written ≤ pages) (hp : pages ≤ ds.length) (hp2 : pages < 500) : ∀ (j : Nat) (h : Hm) (rs : List Int) (acc : List Pg) (x5 : Option D), j + acc.length = pages →
    h[nd]? = some (.lst (ds.map D.int)) → h[nr]? = some (.lst (rs.map D.int)) → rs.length < 1000 →
    ∃ (ps : List Pg) (rs' : List Int) (x5' : Option D), (keysOf ps ++ rs').Perm rs ∧ ps.length = j ∧ (∀ i p, ps[i]? = some p → (written ≤ acc.length + i ↔ p = .free)) ∧
      loopG none (tName 5) bodyP ((List.range' acc.length j).map fun i => D.int (i : Nat)) [some (.ref nd), some (.ref nr), some (.int pages), some (.int written), some (.ref h.length), x5] (h ++ [.lst (acc.map pD)]) =
        .nx [some (.ref nd), some (.ref nr), some (.int pages), some (.int written), some (.ref h.length), x5'] (h.set nr (.lst (rs'.map D.int)) ++ [.lst ((acc ++ ps).map pD)])
  | 0, h, rs, acc, x5, _, hd, hr, _ => by
    refine ⟨[], rs, x5, .refl _, rfl, fun i p z => by simp at z, ?_⟩
    have hself : h.set nr (.lst (rs.map D.int)) = h := by
      apply List.ext_getElem?
      intro j
      by_cases hj : nr = j
      · subst hj
        rw [List.getElem?_set_self (lt_of_get hr), hr]
      · rw [List.getElem?_set_ne hj]
    rw [List.range'_zero, List.map_nil, loop_nil chk_none, hself, List.append_nil]
  | j + 1, h, rs, acc, x5, hj, hd, hr, hrl => by
    have hk : acc.length < ds.length := by omega
    obtain ⟨p, rs1, h1, e1⟩ := page_step h nd nr acc.length ds rs pages written acc ds[acc.length] hd hr (List.getElem?_eq_getElem hk) (hd0 _ (List.getElem_mem hk)) hne hrl (by omega)
    have hL : (h.set nr (.lst (rs1.map D.int))).length = h.length := List.length_set ..
    have hperm : (keysOf [p] ++ rs1).Perm rs := by
      rcases h1 with ⟨_, rfl, rfl⟩ | ⟨_, ⟨rfl, rfl⟩ | ⟨q, rfl, h⟩⟩
      · exact .refl _
      · exact .refl _
      · exact h
    have hl1 : rs1.length ≤ rs.length := by
      have := hperm.length_eq
      rw [List.length_append] at this
      omega
    obtain ⟨ps, rs', x5', g1, g2, g3, g4⟩ := page_loop nd nr ds pages written hne hd0 hw hp hp2 j (h.set nr (.lst (rs1.map D.int))) rs1 (acc ++ [p]) (some (.int acc.length)) (by simp; omega) (by rw [List.getElem?_set_ne (Ne.symm hne)]; exact hd) (by rw [List.getElem?_set_self (lt_of_get hr)]) (by omega)
    refine ⟨p :: ps, rs', x5', ?_, by simp [g2], fun i q hq => ?_, ?_⟩
    · have : keysOf (p :: ps) = keysOf [p] ++ keysOf ps := keysOf_app [p] ps
      rw [this, List.append_assoc]
      exact (List.Perm.append_left _ g1).trans hperm
    · cases i with
      | zero =>
        simp at hq
        subst hq
        rcases h1 with ⟨a, rfl, _⟩ | ⟨a, ⟨rfl, _⟩ | ⟨q, rfl, _⟩⟩
        · simp; omega
        · simp; omega
        · simp; omega
      | succ i =>
        have := g3 i q (by simpa using hq)
        rw [← this]
        simp
        omega
    · rw [List.range'_succ, List.map_cons, loop_cons chk_none (s1 := [some (.ref nd), some (.ref nr), some (.int pages), some (.int written), some (.ref h.length), some (.int acc.length)]) (h1 := h ++ [.lst (acc.map pD)]) rfl, e1]
      simp only [lp_nx]
      rw [hL] at g4
      have e4 : acc.length + 1 = (acc ++ [p]).length := by simp
      rw [e4, g4, List.append_assoc, List.set_set]
      rfl
end Sh.k09
/-! from Q03c -/
set_option linter.all false
set_option maxRecDepth 100000
namespace Sh.k09
open PySem L2 PyProof.Rows Sh
theorem pages_run (a b : D) (P W : Int) (h : Hm) : m__law_pages [a, b, .int P, .int W] h = ((gFor (fiRg [eVar 2]) (tName 5) bodyP [some a, some b, some (.int P), some (.int W), some (.ref h.length), none] (h ++ [.lst []])).seq (gRet (eArgs bTuple [(eVar 4)]))).out := by
  simp only [m__law_pages, x_run, g__law_pages]
  simp
theorem tup_ref {h : Hm} {n : Nat} {xs : List D} (e : h[n]? = some (.lst xs)) : bTuple [.ref n] h = .ok (.tup xs) h := by simp [bTuple, items, e]
theorem x_pages (h : Hm) (nd nr : Nat) (ds rs : List Int) (pages written : Nat) (hd : h[nd]? = some (.lst (ds.map D.int))) (hr : h[nr]? = some (.lst (rs.map D.int))) (hne : nd ≠ nr) (hd0 : ∀ d ∈ ds, 0 ≤ d) (hw : written ≤ pages) (hp : pages ≤ ds.length) (hp2 : pages < 500) (hrl : rs.length < 1000) :
    ∃ (ps : List Pg) (rs' : List Int), (keysOf ps ++ rs').Perm rs ∧ ps.length = pages ∧ (∀ i p, ps[i]? = some p → (written ≤ i ↔ p = .free)) ∧
      m__law_pages [.ref nd, .ref nr, .int pages, .int written] h = .ok (.tup (ps.map pD)) (h.set nr (.lst (rs'.map D.int)) ++ [.lst (ps.map pD)]) := by
  obtain ⟨ps, rs', x5', g1, g2, g3, g4⟩ := page_loop nd nr ds pages written hne hd0 hw hp hp2 pages h rs [] none rfl hd hr hrl
  refine ⟨ps, rs', g1, g2, fun i p hp => ?_, ?_⟩
  · have := g3 i p hp
    simpa using this
  · rw [pages_run, for_ok (fi_rg (h1 := h ++ [.lst []]) (j := pages) rfl (by omega) (by omega)), Int.toNat_natCast, List.range_eq_range']
    simp only [List.length_nil, List.map_nil, List.nil_append] at g4
    rw [g4]
    have hL : (h.set nr (.lst (rs'.map D.int)) ++ [O.lst (ps.map pD)])[h.length]? = some (.lst (ps.map pD)) := by
      have : h.length = (h.set nr (.lst (rs'.map D.int))).length := by simp
      rw [this]
      exact get_last
    simp only [seq_nx, x_ret, x_args, evR_cons, evR_nil, x_var, List.getElem?_cons_zero, List.getElem?_cons_succ, ofO_some, RD.bind_ok, tup_ref hL, RD.st_ok, out_rt]
structure Ext (nr : Nat) (o : O) (h h' : Hm) : Prop where
  le : h.length ≤ h'.length
  old : ∀ n, n < h.length → n ≠ nr → h'[n]? = h[n]?
  new : h'[nr]? = some o
inductive Lf where
  | bad | ever | num (n : Int)
  deriving DecidableEq
def lD : Lf → D
  | .bad => .non | .ever => .str "ever" | .num n => .int n
def lfOk : Lf → Prop
  | .num n => 0 ≤ n ∧ n ≤ 99
  | _ => True
theorem leftD_ok (d : Int) (h0 : 0 ≤ d) : ∃ l, leftD d = lD l ∧ lfOk l := by
  unfold leftD
  split
  · exact ⟨.bad, rfl, trivial⟩
  · split
    · exact ⟨.ever, rfl, trivial⟩
    · split
      · exact ⟨.num (d - 20), rfl, by show 0 ≤ d - 20 ∧ d - 20 ≤ 99; omega⟩
      · exact ⟨.num (d % 3), rfl, by show 0 ≤ d % 3 ∧ d % 3 ≤ 99; omega⟩
theorem lD_non (l : Lf) : lD l = .non ↔ l = .bad := by cases l <;> simp [lD]
def bD (b : Lf × List Pg) : D := .tup [lD b.1, .tup (b.2.map pD)]
def BkOk (pages : Nat) (b : Lf × List Pg) : Prop := lfOk b.1 ∧ b.2.length = pages ∧ ∃ w, w ≤ pages ∧ (b.1 = .bad → w = pages) ∧ ∀ i p, b.2[i]? = some p → (w ≤ i ↔ p = .free)
theorem dig_len : ∀ {ds zs : List Int}, Dig ds zs → ds.length = zs.length
  | [], [], _ => rfl
  | d :: ds, z :: zs, h => by simp [dig_len h.2]
  | [], _ :: _, h => h.elim
  | _ :: _, [], h => h.elim
theorem dig_pos : ∀ {ds zs : List Int}, Dig ds zs → ∀ d ∈ ds, 0 ≤ d
  | [], [], _, d, hd => by simp at hd
  | d :: ds, z :: zs, h, e, he => by
    rcases List.mem_cons.mp he with rfl | he
    · exact h.1.1
    · exact dig_pos h.2 e he
  | [], _ :: _, h, _, _ => h.elim
  | _ :: _, [], h, _, _ => h.elim
theorem flat_rep (n : Nat) (x : D) : (List.replicate n [x]).flatten = List.replicate n x := by
  induction n with
  | zero => rfl
  | succ n ih => rw [List.replicate_succ, List.flatten_cons, ih]; rfl
theorem addL {h : Hm} {a b : Nat} {xs ys : List D} (e1 : h[a]? = some (.lst xs)) (e2 : h[b]? = some (.lst ys)) (hl : xs.length + ys.length ≤ 1000000) : dAdd (.ref a) (.ref b) h = .ok (.ref h.length) (h ++ [.lst (xs ++ ys)]) := by
  have hl' : xs.length + ys.length ≤ big := hl
  simp [dAdd, e1, e2, hl']
theorem mulL {h : Hm} {a : Nat} {xs : List D} {k : Int} (e1 : h[a]? = some (.lst xs)) (h0 : 0 ≤ k) (h1 : k < 1000) (hl : xs.length ≤ 1000) : dMul (.ref a) (.int k) h = .ok (.ref h.length) (h ++ [.lst (List.replicate k.toNat xs).flatten]) := by
  have b : -9223372036854775808 ≤ k ∧ k < 9223372036854775808 := ⟨by omega, by omega⟩
  have hl' : xs.length * k.toNat ≤ big := by
    have : xs.length * k.toNat ≤ 1000 * 1000 := Nat.mul_le_mul hl (by omega)
    exact this
  simp [dMul, e1, b, hl']
theorem sizes_run (c P : Int) (nr : Nat) (t : DS) (h : Hm) (h0 : 0 ≤ P) (h1 : P < 7) :
    (eBin dAdd (eLst [(eC (.int 160)), (eBin dAdd (eVar 2) (eC (.int 1)))]) (eBin dMul (eLst [(eC (.int 36))]) (eVar 2))) (some (.int c) :: some (.ref nr) :: some (.int P) :: t) h =
      .ok (.ref (h.length + 3)) (h ++ [.lst [.int 160, .int (P + 1)]] ++ [.lst [.int 36]] ++ [.lst (List.replicate P.toNat (.int 36))] ++ [.lst (.int 160 :: .int (P + 1) :: List.replicate P.toNat (.int 36))]) := by
  have e1 : (h ++ [O.lst [.int 160, .int (P + 1)]] ++ [.lst [.int 36]])[(h ++ [O.lst [.int 160, .int (P + 1)]]).length]? = some (.lst [.int 36]) := get_last
  have e2 : (h ++ [O.lst [.int 160, .int (P + 1)]] ++ [.lst [.int 36]] ++ [.lst (List.replicate P.toNat (.int 36))])[h.length]? = some (.lst [.int 160, .int (P + 1)]) := by
    rw [get_old (by simp), get_old (by simp)]
    exact get_last
  have e3 : (h ++ [O.lst [.int 160, .int (P + 1)]] ++ [.lst [.int 36]] ++ [.lst (List.replicate P.toNat (.int 36))])[(h ++ [O.lst [.int 160, .int (P + 1)]] ++ [O.lst [.int 36]]).length]? = some (.lst (List.replicate P.toNat (.int 36))) := get_last
  simp only [x_bin, x_lst, evR_cons, evR_nil, x_c, x_var, List.getElem?_cons_zero, List.getElem?_cons_succ, ofO_some, RD.bind_ok, o_add]
  rw [mulL e1 h0 (by omega) (by simp), flat_rep]
  simp only [RD.bind_ok]
  rw [addL e2 e3 (by simp; omega)]
  simp
theorem block_run {a d0 l pg : D} {c P W1 : Int} {h hz hd hs hp : Hm} {nz nd ns : Nat}
    (e1 : (eBin dAdd (eLst [(eC (.int 160)), (eBin dAdd (eVar 2) (eC (.int 1)))]) (eBin dMul (eLst [(eC (.int 36))]) (eVar 2))) [some (.int c), some a, some (.int P), none, none, none] h = .ok (.ref nz) hz) (e2 : m__law_digits [.int c, .ref nz] hz = .ok (.ref nd) hd)
    (e3 : dIx (.ref nd) (.int 0) hd = .ok d0 hd) (e4 : m__law_left [d0] hd = .ok l hd) (e5 : dIx (.ref nd) (.int 1) hd = .ok (.int W1) hd) (e6 : dSl (.ref nd) (some 2) none hd = .ok (.ref ns) hs) (e7 : m__law_pages [.ref ns, a, .int P, .int (if l = .non then P else W1)] hs = .ok pg hp) :
    m__law_block [.int c, a, .int P] h = .ok (.tup [l, pg]) hp := by
  simp only [m__law_block, x_run, g__law_block]
  simp only [List.map_cons, List.map_nil, List.length_cons, List.length_nil, Nat.zero_add, Nat.reduceAdd, Nat.reduceSub, List.reduceReplicate, List.cons_append, List.nil_append, x_seq, x_set, x_args, evR_cons, evR_nil, x_var, List.getElem?_cons_zero, List.getElem?_cons_succ, ofO_some, RD.bind_ok, e1, e2, RD.st_ok, seq_nx, List.set_cons_succ, List.set_cons_zero]
  simp only [x_if, x_bin, x_var, List.getElem?_cons_zero, List.getElem?_cons_succ, ofO_some, RD.bind_ok, x_c, e3, e4, RD.st_ok, seq_nx, e5, o_is_n, tst_ok, decide_eq_true_eq]
  by_cases hl : l = .non
  · rw [if_pos hl] at e7
    simp [hl, eSl, ePart, e5, e6, e7]
  · rw [if_neg hl] at e7
    simp [hl, eSl, ePart, e5, e6, e7]
theorem x_block (h : Hm) (nr : Nat) (rs : List Int) (c : Int) (pages : Nat) (hr : h[nr]? = some (.lst (rs.map D.int))) (hp : pages ≤ 6) (hrl : rs.length < 1000) :
    ∃ (b : Lf × List Pg) (rs' : List Int) (h' : Hm), BkOk pages b ∧ (keysOf b.2 ++ rs').Perm rs ∧ Ext nr (.lst (rs'.map D.int)) h h' ∧
      m__law_block [.int c, .ref nr, .int pages] h = .ok (bD b) h' := by
  have hnr := lt_of_get hr
  -- the sizes
  let zs : List Int := 160 :: (pages + 1 : Int) :: List.replicate pages 36
  have hzs : ∀ z ∈ zs, 0 < z ∧ z < 1000000 := by
    intro z hz
    rcases List.mem_cons.mp hz with rfl | hz
    · omega
    · rcases List.mem_cons.mp hz with rfl | hz
      · omega
      · have := (List.mem_replicate.mp hz).2
        omega
  let h1 : Hm := h ++ [.lst [.int 160, .int (pages + 1)]] ++ [.lst [.int 36]] ++ [.lst (List.replicate pages (.int 36))]
  have hz1 : (h1 ++ [O.lst (zs.map D.int)])[h1.length]? = some (.lst (zs.map D.int)) := get_last
  have hl1 : h1.length = h.length + 3 := by simp [h1]
  obtain ⟨ds, hD, e1⟩ := x_digits (h1 ++ [O.lst (zs.map D.int)]) h1.length zs hz1 c hzs (by simp [zs]; omega)
  have hdl := dig_len hD
  have hzl : zs.length = pages + 2 := by simp [zs]
  obtain ⟨d0, d1, dr, rfl⟩ : ∃ d0 d1 dr, ds = d0 :: d1 :: dr := by
    match ds, hdl with
    | d0 :: d1 :: dr, _ => exact ⟨d0, d1, dr, rfl⟩
    | [], z => simp [hzl] at z
    | [_], z => simp [hzl] at z
  have hD0 : 0 ≤ d0 ∧ d0 < 160 := hD.1
  have hD1 : 0 ≤ d1 ∧ d1 < (pages + 1 : Int) := hD.2.1
  obtain ⟨l, el, ol⟩ := leftD_ok d0 hD0.1
  let h2 : Hm := h1 ++ [O.lst (zs.map D.int)] ++ [.lst ((d0 :: d1 :: dr).map D.int)]
  have hd2 : h2[h.length + 4]? = some (.lst ((d0 :: d1 :: dr).map D.int)) := by
    have : h.length + 4 = (h1 ++ [O.lst (zs.map D.int)]).length := by simp [hl1]
    rw [this]
    exact get_last
  have hl2 : h2.length = h.length + 5 := by simp [h2, hl1]
  -- digits[2:]
  let h3 : Hm := h2 ++ [.lst (dr.map D.int)]
  have hd3 : h3[h.length + 5]? = some (.lst (dr.map D.int)) := by
    rw [← hl2]
    exact get_last
  have old3 : ∀ n, n < h.length → h3[n]? = h[n]? := by
    intro n hn
    simp only [h3, h2, h1]
    rw [get_old (by simp; omega), get_old (by simp; omega), get_old (by simp; omega), get_old (by simp; omega), get_old (by simp; omega), get_old hn]
  have hw : (if l = .bad then pages else d1.toNat) ≤ pages := by split <;> omega
  have hdrl : dr.length = pages := by simp [hzl] at hdl; omega
  obtain ⟨ps, rs', g1, g2, g3, g4⟩ := x_pages h3 (h.length + 5) nr dr rs pages (if l = .bad then pages else d1.toNat) hd3 (by rw [old3 nr hnr]; exact hr) (by omega) (fun d hd => dig_pos hD d (List.mem_cons_of_mem _ (List.mem_cons_of_mem _ hd))) hw (by omega) (by omega) hrl
  refine ⟨(l, ps), rs', h3.set nr (.lst (rs'.map D.int)) ++ [.lst (ps.map pD)], ⟨ol, g2, _, hw, fun e => by rw [if_pos e], g3⟩, g1, ⟨?_, fun n hn hne => ?_, ?_⟩, ?_⟩
  · simp [h3, hl2]; omega
  · rw [get_old (by simp [h3, hl2]; omega), List.getElem?_set_ne (Ne.symm hne), old3 n hn]
  · rw [get_old (by simp [h3, hl2]; omega), List.getElem?_set_self (by simp [h3, hl2]; omega)]
  · have s1 := sizes_run c pages nr [none, none, none] h (by omega) (by omega)
    have ez : (O.lst (.int 160 :: .int ((pages : Int) + 1) :: List.replicate (pages : Int).toNat (.int 36))) = .lst (zs.map D.int) := by
      simp [zs]
    have eh : h ++ [O.lst [.int 160, .int ((pages : Int) + 1)]] ++ [.lst [.int 36]] ++ [.lst (List.replicate (pages : Int).toNat (.int 36))] = h1 := by
      rw [Int.toNat_natCast]
    rw [ez, eh, ← hl1] at s1
    have i0 : dIx (.ref (h1 ++ [O.lst (zs.map D.int)]).length) (.int 0) h2 = .ok (.int d0) h2 := ix_ref (k := 0) get_last rfl
    have i1 : dIx (.ref (h1 ++ [O.lst (zs.map D.int)]).length) (.int 1) h2 = .ok (.int d1) h2 := ix_ref (k := 1) get_last rfl
    have i2 : dSl (.ref (h1 ++ [O.lst (zs.map D.int)]).length) (some 2) none h2 = .ok (.ref (h.length + 5)) h3 := by
      have e : h2[(h1 ++ [O.lst (zs.map D.int)]).length]? = some (.lst ((d0 :: d1 :: dr).map D.int)) := get_last
      have ec : cutD ((d0 :: d1 :: dr).map D.int) (some 2) none = dr.map D.int := by
        unfold cutD
        have a : HT.sIx ((d0 :: d1 :: dr).map D.int).length 0 (some 2) = 2 := by
          have := HT.sIx_nat ((d0 :: d1 :: dr).map D.int).length 0 2
          rw [show ((2 : Nat) : Int) = 2 from rfl] at this
          rw [this]
          simp only [List.length_map, List.length_cons]
          omega
        rw [a, HT.sIx_none]
        have e5 : (List.map D.int (d0 :: d1 :: dr)).drop 2 = dr.map D.int := rfl
        rw [e5, List.take_of_length_le]
        simp
      simp only [dSl, e, ec, hl2]
      rfl
    have i3 : (if lD l = .non then (pages : Int) else d1) = ((if l = .bad then pages else d1.toNat : Nat) : Int) := by
      by_cases hb : l = .bad
      · rw [if_pos ((lD_non l).mpr hb), if_pos hb]
      · rw [if_neg (fun z => hb ((lD_non l).mp z)), if_neg hb]
        omega
    refine block_run s1 e1 i0 (by rw [x_left, el]) i1 i2 ?_
    rw [i3]
    exact g4
end Sh.k09
/-! from Q03d -/
set_option linter.all false
set_option maxRecDepth 100000
namespace Sh.k09
open PySem L2 PyProof.Rows Sh
abbrev bodyR : FS := (gDrop (eLm lAppend (eVar 5) [(eArgs m__law_block [(eArgs m__law_cell [(eVar 0), (eBin dAdd (eBin dAdd (eVar 1) (eC (.int 1))) (eVar 6))]), (eVar 4), (eBin dAdd (eC (.int 1)) (eBin dIx (eVar 2) (eC (.int 2))))])]))
abbrev bodyE : FE := (eArgs m__law_block [(eArgs m__law_cell [(eVar 0), (eBin dAdd (eBin dAdd (eVar 1) (eC (.int 1))) (eVar 6))]), (eVar 4), (eBin dAdd (eC (.int 1)) (eBin dIx (eVar 2) (eC (.int 2))))])
theorem rows_eval {sc a2 a4 a5 bb x7 : D} {b c h2 : Int} {K : D} {h h' : Hm} (e0 : m__law_cell [sc, .int (1 + 1 + b)] h = .ok (.int c) h) (e1 : dIx a2 (.int 2) h = .ok (.int h2) h) (e2 : m__law_block [.int c, a4, .int (1 + h2)] h = .ok bb h') :
    bodyE [some sc, some (.int 1), some a2, some K, some a4, some a5, some (.int b), none] h = .ok bb h' := by
  simp only [bodyE, x_args, evR_cons, evR_nil, x_bin, x_var, x_c, List.getElem?_cons_zero, List.getElem?_cons_succ, ofO_some, RD.bind_ok, o_add, e0, e1, e2]
def allKeys (bs : List (Lf × List Pg)) : List Int := (bs.map fun b => keysOf b.2).flatten
theorem rows_step {ns : List Int} {nh nr nw : Nat} {b : Nat} {hs rs : List Int} {hd2 : Nat} {K : D} {h : Hm} {acc : List (Lf × List Pg)} (hh : h[nh]? = some (.lst (hs.map D.int))) (h2 : hs[2]? = some (hd2 : Int)) (h6 : hd2 < 6) (hr : h[nr]? = some (.lst (rs.map D.int))) (hw : h[nw]? = some (.lst (acc.map bD)))
    (n1 : nh ≠ nr) (n2 : nw ≠ nr) (n3 : nh ≠ nw) (hrl : rs.length < 1000) (hal : acc.length < 1000) :
    ∃ (bk : Lf × List Pg) (rs' : List Int) (h' : Hm), BkOk (1 + hd2) bk ∧ (keysOf bk.2 ++ rs').Perm rs ∧ h.length ≤ h'.length ∧ h'[nh]? = some (.lst (hs.map D.int)) ∧ h'[nr]? = some (.lst (rs'.map D.int)) ∧ h'[nw]? = some (.lst ((acc ++ [bk]).map bD)) ∧
      bodyR [some (.scl (ns.map D.int)), some (.int 1), some (.ref nh), some K, some (.ref nr), some (.ref nw), some (.int b), none] h = .nx [some (.scl (ns.map D.int)), some (.int 1), some (.ref nh), some K, some (.ref nr), some (.ref nw), some (.int b), none] h' := by
  obtain ⟨c, e0⟩ := x_cell ns (1 + 1 + (b : Int)) h (by omega)
  obtain ⟨bk, rs', h', g1, g2, g3, g4⟩ := x_block h nr rs c (1 + hd2) hr (by omega) hrl
  have e1 : dIx (.ref nh) (.int 2) h = .ok (.int hd2) h := ix_ref (k := 2) hh (by rw [List.getElem?_map, h2]; rfl)
  have e4 : m__law_block [.int c, .ref nr, .int (1 + (hd2 : Int))] h = .ok (bD bk) h' := by
    have : (1 + (hd2 : Int)) = ((1 + hd2 : Nat) : Int) := by omega
    rw [this]
    exact g4
  have ev := rows_eval (K := K) (a5 := .ref nw) (x7 := K) (bb := bD bk) e0 e1 e4
  have hw' : h'[nw]? = some (.lst (acc.map bD)) := by rw [g3.old nw (lt_of_get hw) n2]; exact hw
  have hwl := lt_of_get hw'
  refine ⟨bk, rs', h'.set nw (.lst (acc.map bD ++ [bD bk])), g1, g2, ?_, ?_, ?_, ?_, ?_⟩
  · rw [List.length_set]; exact g3.le
  · rw [List.getElem?_set_ne (Ne.symm n3), g3.old nh (lt_of_get hh) n1]; exact hh
  · rw [List.getElem?_set_ne n2]; exact g3.new
  · rw [List.getElem?_set_self hwl]; simp
  · show gDrop (eLm lAppend (eVar 5) [bodyE]) _ h = _
    simp only [x_drop, x_lm, x_var, List.getElem?_cons_zero, List.getElem?_cons_succ, ofO_some, RD.bind_ok, lmB_ref (gl := lAppend) hw, evR_cons, evR_nil, ev, lmC_ok (gl := lAppend) hw']
    rw [app_ok (by simp; omega)]
    rfl
theorem rows_loop {ns : List Int} {nh nr nw : Nat} {hs : List Int} {hd2 : Nat} {K : D} (h2 : hs[2]? = some (hd2 : Int)) (h6 : hd2 < 6) (n1 : nh ≠ nr) (n2 : nw ≠ nr) (n3 : nh ≠ nw) : ∀ (j : Nat) (h : Hm) (rs : List Int) (acc : List (Lf × List Pg)) (x6 : Option D), h[nh]? = some (.lst (hs.map D.int)) → h[nr]? = some (.lst (rs.map D.int)) → h[nw]? = some (.lst (acc.map bD)) → rs.length < 1000 → acc.length + j < 1000 →
    ∃ (bs : List (Lf × List Pg)) (rs' : List Int) (h' : Hm) (x6' : Option D), bs.length = j ∧ (∀ b ∈ bs, BkOk (1 + hd2) b) ∧ (allKeys bs ++ rs').Perm rs ∧ h'[nh]? = some (.lst (hs.map D.int)) ∧ h'[nw]? = some (.lst ((acc ++ bs).map bD)) ∧
      loopG none (tName 6) bodyR ((List.range' acc.length j).map fun i => D.int (i : Nat)) [some (.scl (ns.map D.int)), some (.int 1), some (.ref nh), some K, some (.ref nr), some (.ref nw), x6, none] h = .nx [some (.scl (ns.map D.int)), some (.int 1), some (.ref nh), some K, some (.ref nr), some (.ref nw), x6', none] h'
  | 0, h, rs, acc, x6, hh, hr, hw, _, _ => ⟨[], rs, h, x6, rfl, fun _ z => (List.not_mem_nil z).elim, .refl _, hh, by rw [List.append_nil]; exact hw, by rw [List.range'_zero, List.map_nil, loop_nil chk_none]⟩
  | j + 1, h, rs, acc, x6, hh, hr, hw, hrl, hal => by
    obtain ⟨bk, rs1, h1, g1, g2, g3, g4, g5, g6, g7⟩ := rows_step (ns := ns) (b := acc.length) (K := K) hh h2 h6 hr hw n1 n2 n3 hrl (by omega)
    have hl1 : rs1.length ≤ rs.length := by
      have := g2.length_eq
      rw [List.length_append] at this
      omega
    obtain ⟨bs, rs', h', x6', k1, k2, k3, k4, k5, k6⟩ := rows_loop h2 h6 n1 n2 n3 j h1 rs1 (acc ++ [bk]) (some (.int acc.length)) g4 g5 g6 (by omega) (by simp; omega)
    refine ⟨bk :: bs, rs', h', x6', by simp [k1], fun b hb => ?_, ?_, k4, by rw [List.append_assoc] at k5; exact k5, ?_⟩
    · rcases List.mem_cons.mp hb with rfl | hb
      · exact g1
      · exact k2 b hb
    · show (keysOf bk.2 ++ allKeys bs ++ rs').Perm rs
      rw [List.append_assoc]
      exact (List.Perm.append_left _ k3).trans g2
    · rw [List.range'_succ, List.map_cons, loop_cons chk_none (s1 := [some (.scl (ns.map D.int)), some (.int 1), some (.ref nh), some K, some (.ref nr), some (.ref nw), some (.int acc.length), none]) (h1 := h) rfl, g7]
      simp only [lp_nx]
      have e4 : acc.length + 1 = (acc ++ [bk]).length := by simp
      rw [e4]
      exact k6
end Sh.k09
/-! from Q03e -/
set_option linter.all false
set_option maxRecDepth 100000
namespace Sh.k09
open PySem L2 PyProof.Rows Sh
theorem drawn_run {sc : D} {c k0 k1 k3 k4 k5 : Int} {h h2 h5 : Hm} {nh : Nat} {bs : List D} {x6 : Option D} (e0 : m__law_cell [sc, .int 1] h = .ok (.int c) h)
    (e1 : m__law_digits [.int c, .ref h.length] (h ++ [.lst [.int 9, .int 9, .int 6, .int 10, .int 10, .int 18]]) = .ok (.ref nh) h2) (i0 : dIx (.ref nh) (.int 0) h2 = .ok (.int k0) h2)
    (b0 : 0 ≤ k0 ∧ k0 < 9) (b1 : 0 ≤ k1 ∧ k1 < 9) (i1 : dIx (.ref nh) (.int 1) (h2 ++ [.lst (rgD 0 (1 + k0))] ++ [.lst []]) = .ok (.int k1) (h2 ++ [.lst (rgD 0 (1 + k0))] ++ [.lst []]))
    (e2 : loopG none (tName 6) bodyR ((List.range (1 + k1).toNat).map fun i => D.int (i : Nat)) [some sc, some (.int 1), some (.ref nh), some (.int (1 + k0)), some (.ref h2.length), some (.ref (h2.length + 1)), none, none] (h2 ++ [.lst (rgD 0 (1 + k0))] ++ [.lst []]) =
      .nx [some sc, some (.int 1), some (.ref nh), some (.int (1 + k0)), some (.ref h2.length), some (.ref (h2.length + 1)), x6, none] h5)
    (i3 : dIx (.ref nh) (.int 3) h5 = .ok (.int k3) h5) (i4 : dIx (.ref nh) (.int 4) h5 = .ok (.int k4) h5) (i5 : dIx (.ref nh) (.int 5) h5 = .ok (.int k5) h5) (et : bTuple [.ref (h2.length + 1)] h5 = .ok (.tup bs) h5) :
    m__law_drawn [sc, .int 1] h = .ok (.tup [.int (1 + k0), .tup bs, .int k3, .int k4, if 9 ≤ k5 then .int ((k5 - 9) % (1 + k0)) else .non]) h5 := by
  have bl : ((1 + k0) ≤ 1000000 ∧ -1000000 ≤ (1 + k0)) := ⟨by omega, by omega⟩
  have hp : 0 < 1 + k0 := by omega
  have hl : h2.length + 1 = (h2 ++ [O.lst (rgD 0 (1 + k0))]).length := by simp
  simp only [m__law_drawn, x_run, g__law_drawn]
  simp only [List.map_cons, List.map_nil, List.length_cons, List.length_nil, Nat.zero_add, Nat.reduceAdd, Nat.reduceSub, List.reduceReplicate, List.cons_append, List.nil_append, x_seq, x_set, x_args, x_lst, evR_cons, evR_nil, x_var, x_c, List.getElem?_cons_zero, List.getElem?_cons_succ, ofO_some, RD.bind_ok, e0, e1, RD.st_ok, seq_nx, List.set_cons_succ, List.set_cons_zero, x_bin, i0, o_add, eListRg, bListRg]
  rw [if_pos bl]
  simp only [RD.st_ok, seq_nx, x_seq, x_set, x_lst, evR_nil, List.set_cons_succ, List.set_cons_zero]
  rw [for_ok (fi_rg (h1 := h2 ++ [.lst (rgD 0 (1 + k0))] ++ [.lst []]) (j := 1 + k1) (by simp only [x_bin, x_c, x_var, List.getElem?_cons_zero, List.getElem?_cons_succ, ofO_some, RD.bind_ok, i1, o_add]) (by omega) (by omega)), ← hl]
  show ((RT.seq (loopG none (tName 6) bodyR _ _ _) _).out) = _
  rw [e2]
  simp only [seq_nx, x_seq, x_set, x_c, RD.st_ok, List.set_cons_succ, List.set_cons_zero, x_if, x_bin, x_var, List.getElem?_cons_zero, List.getElem?_cons_succ, ofO_some, RD.bind_ok, i5, o_cmp, tst_ok, decide_eq_true_eq]
  by_cases h9 : 9 ≤ k5
  · simp only [h9, if_true, x_args, evR_cons, evR_nil, x_bin, x_var, x_c, List.getElem?_cons_zero, List.getElem?_cons_succ, ofO_some, RD.bind_ok, i5, o_sub, o_int, o_mod, hp, RD.st_ok, seq_nx, List.set_cons_succ, List.set_cons_zero, x_ret, x_tup, et, i3, i4, out_rt]
  · simp only [h9, if_false, x_next, seq_nx, x_args, evR_cons, evR_nil, x_bin, x_var, x_c, List.getElem?_cons_zero, List.getElem?_cons_succ, ofO_some, RD.bind_ok, RD.st_ok, x_ret, x_tup, et, i3, i4, out_rt]
structure Sd where
  keys : Int
  blocks : List (Lf × List Pg)
  fails : Int
  cuts : Int
  due : Option Int
def dueD : Option Int → D
  | none => .non
  | some k => .int k
def Sd.enc (S : Sd) : D := .tup [.int S.keys, .tup (S.blocks.map bD), .int S.fails, .int S.cuts, dueD S.due]
structure SdOk (S : Sd) (pages : Nat) : Prop where
  k1 : 1 ≤ S.keys
  k2 : S.keys ≤ 9
  b1 : 1 ≤ S.blocks.length
  b2 : S.blocks.length ≤ 9
  p1 : 1 ≤ pages
  p2 : pages ≤ 6
  bk : ∀ b ∈ S.blocks, BkOk pages b
  nd : (allKeys S.blocks).Nodup
  kr : ∀ k ∈ allKeys S.blocks, 0 ≤ k ∧ k < S.keys
  f : 0 ≤ S.fails ∧ S.fails ≤ 9
  c : 0 ≤ S.cuts ∧ S.cuts ≤ 9
  d : ∀ k, S.due = some k → 0 ≤ k ∧ k < S.keys
theorem x_drawn (ns : List Int) (h : Hm) : ∃ (S : Sd) (pages : Nat) (h' : Hm), SdOk S pages ∧ m__law_drawn [.scl (ns.map D.int), .int 1] h = .ok S.enc h' := by
  obtain ⟨c, e0⟩ := x_cell ns 1 h (by omega)
  have hz : (h ++ [O.lst (([9, 9, 6, 10, 10, 18] : List Int).map D.int)])[h.length]? = some (.lst (([9, 9, 6, 10, 10, 18] : List Int).map D.int)) := get_last
  obtain ⟨ds, hD, e1⟩ := x_digits (h ++ [O.lst (([9, 9, 6, 10, 10, 18] : List Int).map D.int)]) h.length [9, 9, 6, 10, 10, 18] hz c (by intro z hz; simp at hz; omega) (by simp)
  have hdl := dig_len hD
  obtain ⟨k0, k1, k2, k3, k4, k5, rfl⟩ : ∃ k0 k1 k2 k3 k4 k5, ds = [k0, k1, k2, k3, k4, k5] := by
    match ds, hdl with
    | [k0, k1, k2, k3, k4, k5], _ => exact ⟨k0, k1, k2, k3, k4, k5, rfl⟩
  obtain ⟨d0, d1, d2, d3, d4, d5, _⟩ := hD
  generalize hh2 : (h ++ [O.lst (([9, 9, 6, 10, 10, 18] : List Int).map D.int)] ++ [O.lst (([k0, k1, k2, k3, k4, k5] : List Int).map D.int)]) = h2 at e1
  have hnh : h2[h.length + 1]? = some (.lst (([k0, k1, k2, k3, k4, k5] : List Int).map D.int)) := by
    rw [← hh2]
    have : h.length + 1 = (h ++ [O.lst (([9, 9, 6, 10, 10, 18] : List Int).map D.int)]).length := by simp
    rw [this]
    exact get_last
  have hl2 : h2.length = h.length + 2 := by rw [← hh2]; simp
  have en : (h ++ [O.lst (([9, 9, 6, 10, 10, 18] : List Int).map D.int)]).length = h.length + 1 := by simp
  rw [en] at e1
  let rs0 : List Int := (List.range (1 + k0).toNat).map fun i : Nat => (i : Int)
  have er : rgD 0 (1 + k0) = rs0.map D.int := by simp [rgD, rs0]
  let h4 : Hm := h2 ++ [.lst (rgD 0 (1 + k0))] ++ [.lst []]
  have f1 : h4[h.length + 1]? = some (.lst (([k0, k1, k2, k3, k4, k5] : List Int).map D.int)) := by
    simp only [h4]
    rw [get_old (by simp; omega), get_old (by omega)]
    exact hnh
  have f2 : h4[h2.length]? = some (.lst (rs0.map D.int)) := by
    simp only [h4]
    rw [get_old (by simp), get_last, er]
  have f3 : h4[h2.length + 1]? = some (.lst (([] : List (Lf × List Pg)).map bD)) := by
    have : h2.length + 1 = (h2 ++ [O.lst (rgD 0 (1 + k0))]).length := by simp
    simp only [h4]
    rw [this]
    exact get_last
  have hrl : rs0.length < 1000 := by simp [rs0]; omega
  obtain ⟨bs, rs', h5, x6', g1, g2, g3, g4, g5, g6⟩ := rows_loop (ns := ns) (hd2 := k2.toNat) (K := .int (1 + k0)) (hs := [k0, k1, k2, k3, k4, k5]) (by show some k2 = _; rw [Int.toNat_of_nonneg d2.1]) (by omega) (by omega) (by omega) (by omega) (1 + k1).toNat h4 rs0 [] none f1 f2 f3 hrl (by simp; omega)
  refine ⟨⟨1 + k0, bs, k3, k4, if 9 ≤ k5 then some ((k5 - 9) % (1 + k0)) else none⟩, 1 + k2.toNat, h5, ?_, ?_⟩
  · have nd0 : rs0.Nodup := by
      simp only [rs0]
      have hr : (List.range (1 + k0).toNat).Pairwise (fun a b => a ≠ b) := List.nodup_range
      refine List.pairwise_map.mpr ?_
      refine List.Pairwise.imp ?_ hr
      intro a b hab z
      exact hab (Int.ofNat.inj z)
    have ndA : (allKeys bs ++ rs').Nodup := g3.symm.nodup nd0
    refine ⟨by simp; omega, by simp; omega, by simp [g1]; omega, by simp [g1]; omega, by omega, by omega, g2, (List.nodup_append.mp ndA).1, fun k hk => ?_, ⟨d3.1, by simp; omega⟩, ⟨d4.1, by simp; omega⟩, fun k hk => ?_⟩
    · have : k ∈ rs0 := g3.subset (List.mem_append_left _ hk)
      simp only [rs0, List.mem_map, List.mem_range] at this
      obtain ⟨i, hi, rfl⟩ := this
      simp
      omega
    · dsimp only at hk
      split at hk
      · cases hk
        exact ⟨Int.emod_nonneg _ (by omega), Int.emod_lt_of_pos _ (by omega)⟩
      · cases hk
  · have ix : ∀ (j : Nat) (v : Int) (hX : Hm), hX[h.length + 1]? = some (.lst (([k0, k1, k2, k3, k4, k5] : List Int).map D.int)) → ([k0, k1, k2, k3, k4, k5] : List Int)[j]? = some v → dIx (.ref (h.length + 1)) (.int j) hX = .ok (.int v) hX := fun j v hX e1 e2 => ix_ref e1 (by rw [List.getElem?_map, e2]; rfl)
    have r := drawn_run e0 e1 (ix 0 k0 h2 hnh rfl) ⟨d0.1, d0.2⟩ ⟨d1.1, d1.2⟩ (ix 1 k1 h4 f1 rfl) (by rw [List.range_eq_range']; exact g6) (ix 3 k3 h5 g4 rfl) (ix 4 k4 h5 g4 rfl) (ix 5 k5 h5 g4 rfl) (tup_ref g5)
    rw [r]
    simp only [Sd.enc]
    by_cases h9 : 9 ≤ k5
    · simp [h9, dueD]
    · simp [h9, dueD]
end Sh.k09
/-! from Q03f -/
set_option linter.all false
set_option maxRecDepth 100000
namespace Sh.k09
open PySem L2 PyProof.Rows Sh
theorem x_iw (i a b : Int) (h : Hm) : m_is_whole [.int i, .int a, .int b] h = .ok (.bl (decide (a ≤ i ∧ i ≤ b))) h := by
  simp [m_is_whole, x_run, g_is_whole, kit_table]
theorem x_iwS (i : Str) (a b : Int) (h : Hm) : m_is_whole [.str i, .int a, .int b] h = .ok (.bl false) h := by
  simp [m_is_whole, x_run, g_is_whole, kit_table]
theorem x_iwB (i : Bool) (a b : Int) (h : Hm) : m_is_whole [.bl i, .int a, .int b] h = .ok (.bl false) h := by
  simp [m_is_whole, x_run, g_is_whole, kit_table]
theorem x_iwN (a b : Int) (h : Hm) : m_is_whole [.non, .int a, .int b] h = .ok (.bl false) h := by
  simp [m_is_whole, x_run, g_is_whole, kit_table]
theorem x_iwT (x : List D) (a b : Int) (h : Hm) : m_is_whole [.tup x, .int a, .int b] h = .ok (.bl false) h := by
  simp [m_is_whole, x_run, g_is_whole, kit_table]
theorem t_lst {T : String} {n : Nat} {h : Hm} {xs : List D} (e : h[n]? = some (.lst xs)) : isiB T h (.ref n) = kitB "list" T := by simp [isiB, tyN, e]
theorem x_iwL (n : Nat) (xs : List D) (a b : Int) (h : Hm) (e : h[n]? = some (.lst xs)) : m_is_whole [.ref n, .int a, .int b] h = .ok (.bl false) h := by
  simp [m_is_whole, x_run, g_is_whole, kit_table, t_lst e]
theorem x_ik (k n : Int) (h : Hm) : m_is_key [.int k, .int n] h = .ok (.bl (decide (0 ≤ k ∧ k ≤ n - 1))) h := by
  simp [m_is_key, x_run, g_is_key, x_iw]
theorem x_il (l : Lf) (o : lfOk l) (h : Hm) : m_is_left [lD l] h = .ok (.bl true) h := by
  cases l with
  | bad => simp [m_is_left, x_run, g_is_left, lD]
  | ever => simp [m_is_left, x_run, g_is_left, lD]
  | num n =>
    have : 0 ≤ n ∧ n ≤ 99 := o
    simp [m_is_left, x_run, g_is_left, lD, x_iw, this]
end Sh.k09
/-! from Q03g -/
set_option linter.all false
set_option maxRecDepth 100000
namespace Sh.k09
open PySem L2 PyProof.Rows Sh
theorem pD_flat : ∀ ps : List Pg, (ps.map pD).all flatD = true
  | [] => rfl
  | p :: ps => by
    rw [List.map_cons, List.all_cons, pD_flat ps]
    cases p <;> rfl
def isFree : Pg → Bool
  | .free => true
  | _ => false
theorem eqF_free (p : Pg) : eqF (pD p) (.str "free") = isFree p := by
  cases p with
  | free => simp [pD, eqF, isFree]
  | old => simp only [pD, eqF, isFree]; decide
  | key k => rfl
theorem count_free (ps : List Pg) : (ps.map pD).countP (fun z => eqF z (.str "free")) = ps.countP isFree := by
  rw [List.countP_map]
  congr 1
  funext p
  exact eqF_free p
theorem free_count : ∀ (ps : List Pg) (w : Nat), (∀ i p, ps[i]? = some p → (w ≤ i ↔ p = .free)) → w ≤ ps.length → ps.countP isFree = ps.length - w
  | [], w, _, hw => by simp at hw; simp [hw]
  | p :: ps, 0, h, _ => by
    have hp := (h 0 p rfl).mp (Nat.le_refl _)
    subst hp
    have := free_count ps 0 (fun i q hq => by simpa using h (i + 1) q (by simpa using hq)) (Nat.zero_le _)
    rw [List.countP_cons_of_pos (by rfl), this]
    simp
  | p :: ps, w + 1, h, hw => by
    have hp : ¬ p = .free := fun z => by
      have := (h 0 p rfl).mpr z
      omega
    have hf : isFree p = false := by cases p <;> first | rfl | exact absurd rfl hp
    have := free_count ps w (fun i q hq => by
      have := h (i + 1) q (by simpa using hq)
      rw [← this]
      omega) (by simp at hw; omega)
    rw [List.countP_cons_of_neg (by rw [hf]; exact Bool.false_ne_true), this]
    simp
theorem no_free (ps : List Pg) (w : Nat) (h : ∀ i p, ps[i]? = some p → (w ≤ i ↔ p = .free)) : (ps.take w).any isFree = false := by
  rw [List.any_eq_false]
  intro p hp
  obtain ⟨i, hi⟩ := List.mem_iff_getElem?.mp hp
  rw [List.getElem?_take] at hi
  split at hi
  · rename_i hlt
    have := h i p hi
    cases p with
    | free => exact absurd (this.mpr rfl) (by omega)
    | _ => exact Bool.false_ne_true
  · cases hi
def pgOk (K : Int) : Pg → Prop
  | .key k => 0 ≤ k ∧ k < K
  | _ => True
abbrev testE : FE := (eOr (eBin dEq (eVar 5) (eC (.str "free"))) (eOr (eBin dEq (eVar 5) (eC (.str "old"))) (eArgs m_is_key [(eVar 5), (eVar 1)])))
theorem x_test (p : Pg) (K : Int) (o : pgOk K p) (a : D) (b c d : Option D) (h : Hm) : testE [some a, some (.int K), b, c, d, some (pD p)] h = .ok (.bl true) h := by
  cases p with
  | free => simp [testE, pD]
  | old =>
    simp [testE, pD]
  | key k =>
    have : 0 ≤ k ∧ k ≤ K - 1 := ⟨o.1, by have := o.2; omega⟩
    simp [testE, pD, x_ik, this]
end Sh.k09
/-! from Q03h -/
set_option linter.all false
set_option maxRecDepth 100000
namespace Sh.k09
open PySem L2 PyProof.Rows Sh
theorem all_test {a : D} {K : Int} {b c : Option D} {ps : List Pg} {h : Hm} (o : ∀ p ∈ ps, pgOk K p) (hl : ps.length < 1000) :
    ∃ t2, eLc (fiSeq (eVar 3)) (tName 5) (eC (.bl true)) testE [5] [some a, some (.int K), b, some (.tup (ps.map pD)), c, none] h = .ok (.ref h.length) (h ++ .lst ((ps.map fun _ => true).map D.bl) :: t2) := by
  obtain ⟨t2, r⟩ := elc_ok (fi := fiSeq (eVar 3)) (gt := tName 5) (ft := eC (.bl true)) (fe := testE) (own := [5]) (s := [some a, some (.int K), b, some (.tup (ps.map pD)), c, none]) (h := h) (ck := none) (xs := ps.map pD) (val := fun _ => .bl true) (tt := fun _ => true)
    (fi_tup rfl) (fun _ => rfl) (fun x hx u => by
      obtain ⟨p, hp, rfl⟩ := List.mem_map.mp hx
      exact ⟨[some a, some (.int K), b, some (.tup (ps.map pD)), c, some (pD p)], [], rfl, rfl, fun _ => by rw [x_test p K (o p hp), List.append_nil]⟩) (by simp; omega)
  refine ⟨t2, ?_⟩
  rw [r, List.filter_eq_self.mpr (fun _ _ => rfl), List.map_map, List.map_map]
  rfl
theorem dSl_tup {xs : List D} {n : Nat} {h : Hm} : dSl (.tup xs) none (some (n : Int)) h = .ok (.tup (xs.take (min n xs.length))) h := by
  simp only [dSl, cutD]
  rw [HT.sIx_none, HT.sIx_nat, List.drop_zero, Nat.sub_zero]
theorem x_isblock (b : Lf × List Pg) (pages : Nat) (K : Int) (hb : BkOk pages b) (p1 : 1 ≤ pages) (p2 : pages ≤ 6) (o : ∀ p ∈ b.2, pgOk K p) (h : Hm) : ∃ t, m_is_block [bD b, .int K] h = .ok (.bl true) (h ++ t) := by
  obtain ⟨l, ps⟩ := b
  obtain ⟨ol, hl, w, hw, hbad, hfree⟩ := hb
  dsimp only at ol hl hbad hfree o
  obtain ⟨t2, r⟩ := all_test (a := bD (l, ps)) (K := K) (b := some (lD l)) (c := none) (h := h) o (by omega)
  refine ⟨.lst ((ps.map fun _ => true).map D.bl) :: t2, ?_⟩
  have hq : bQuant (fun bs => bs.all id) [.ref h.length] (h ++ .lst ((ps.map fun _ => true).map D.bl) :: t2) = .ok (.bl true) (h ++ .lst ((ps.map fun _ => true).map D.bl) :: t2) := by
    rw [quant_ok (bs := ps.map fun _ => true) (by simp)]
    simp
  have i0 : ∀ H : Hm, dIx (bD (l, ps)) (.int 0) H = .ok (lD l) H := fun H => ix_tup (k := 0) rfl
  have tl : tCount (ps.map pD) [.str "free"] (h ++ .lst ((ps.map fun _ => true).map D.bl) :: t2) = .ok (.int ((pages - w : Nat) : Int)) (h ++ .lst ((ps.map fun _ => true).map D.bl) :: t2) := by
    have : flatD (.str "free") = true ∧ (ps.map pD).all flatD = true := ⟨rfl, pD_flat ps⟩
    simp only [tCount]
    rw [if_pos this, count_free, free_count ps w hfree (by omega), hl]
  have len3 : ∀ H : Hm, bLen [.tup (ps.map pD)] H = .ok (.int (pages : Int)) H := fun H => by rw [o_len_t, List.length_map, hl]
  have c3 : 1 ≤ (pages : Int) ∧ (pages : Int) ≤ 6 := ⟨by omega, by omega⟩
  simp only [m_is_block, x_run, g_is_block]
  simp only [List.map_cons, List.map_nil, List.length_cons, List.length_nil, Nat.zero_add, Nat.reduceAdd, Nat.reduceSub, List.reduceReplicate, List.cons_append, List.nil_append, x_seq, x_if, x_or, x_not, x_isi, x_var, List.getElem?_cons_zero, List.getElem?_cons_succ, ofO_some, RD.bind_ok]
  have tt : ∀ H : Hm, isiB "tuple" H (bD (l, ps)) = some true := fun H => by simp [bD, kit_table]
  have tt2 : ∀ H : Hm, isiB "tuple" H (.tup (ps.map pD)) = some true := fun H => by simp [kit_table]
  have l2 : ∀ H : Hm, bLen [bD (l, ps)] H = .ok (.int 2) H := fun H => rfl
  simp only [tt, tb_ok, Bool.not_true, Bool.false_eq_true, if_false, x_bin, x_args, evR_cons, evR_nil, x_var, List.getElem?_cons_zero, ofO_some, RD.bind_ok, l2, x_c, nq_int, decide_true, i0, x_il l ol, tst_ok, x_next, seq_nx]
  have asg : gAsg (eVar 0) (tTup [tName 2, tName 3]) [some (bD (l, ps)), some (.int K), none, none, none, none] h = .nx [some (bD (l, ps)), some (.int K), some (lD l), some (.tup (ps.map pD)), none, none] h := rfl
  rw [x_seq, asg]
  simp only [seq_nx, x_seq, x_if, x_or, x_not, x_isi, x_var, List.getElem?_cons_zero, List.getElem?_cons_succ, ofO_some, RD.bind_ok, tt2, tb_ok, Bool.not_true, Bool.false_eq_true, if_false, x_chain, x_c, x_args, evR_cons, evR_nil, len3, o_cmp, decide_eq_true_eq, c3.1, c3.2, if_true, decide_true, tst_ok, x_next, r, hq]
  have tm : eTm tCount (eVar 3) [eC (.str "free")] [some (bD (l, ps)), some (.int K), some (lD l), some (.tup (ps.map pD)), none, none] (h ++ .lst ((ps.map fun _ => true).map D.bl) :: t2) = .ok (.int ((pages - w : Nat) : Int)) (h ++ .lst ((ps.map fun _ => true).map D.bl) :: t2) := by
    rw [← tl]
    rfl
  rw [x_set, tm]
  simp only [RD.st_ok, seq_nx, List.set_cons_succ, List.set_cons_zero, x_seq, x_if, x_bin, x_var, List.getElem?_cons_zero, List.getElem?_cons_succ, ofO_some, RD.bind_ok, x_c, o_is_n, tst_ok, decide_eq_true_eq]
  by_cases hl0 : lD l = .non
  · have hw2 := hbad ((lD_non l).mp hl0)
    subst hw2
    simp only [hl0, if_true, x_ret, x_bin, x_var, List.getElem?_cons_zero, List.getElem?_cons_succ, ofO_some, RD.bind_ok, x_c, q_int, RD.st_ok, seq_rt, out_rt]
    simp
  · simp only [hl0, if_false, x_next, seq_nx, x_ret, x_bin, x_c, RD.bind_ok, eSl, ePart, x_var, List.getElem?_cons_zero, List.getElem?_cons_succ, ofO_some, x_args, evR_cons, evR_nil, len3, o_sub]
    have ew : ((pages : Int) - ((pages - w : Nat) : Int)) = (w : Int) := by omega
    rw [ew, dSl_tup]
    have hmin : min w (ps.map pD).length = w := by simp; omega
    rw [hmin]
    have hin : inB (h ++ .lst ((ps.map fun _ => true).map D.bl) :: t2) (.str "free") (.tup ((ps.map pD).take w)) = some false := by
      have hf : flatD (.str "free") = true ∧ ((ps.map pD).take w).all flatD = true := ⟨rfl, by rw [← List.map_take]; exact pD_flat _⟩
      simp only [inB]
      rw [if_pos hf, ← List.map_take, List.any_map]
      have := no_free ps w hfree
      rw [← this]
      congr 2
      funext p
      exact eqF_free p
    simp only [RD.bind_ok, dNotIn, hin]
    rfl
end Sh.k09
/-! from Q03i -/
set_option linter.all false
set_option maxRecDepth 100000
namespace Sh.k09
open PySem L2 PyProof.Rows Sh
def notStr : D → Bool
  | .str _ => false
  | _ => true
theorem keys_map' : ∀ ps : List Pg, (ps.map pD).filter notStr = (keysOf ps).map D.int
  | [] => rfl
  | .free :: ps => by
    rw [List.map_cons, List.filter_cons_of_neg (by exact Bool.false_ne_true), keys_map' ps]
    rfl
  | .old :: ps => by
    rw [List.map_cons, List.filter_cons_of_neg (by exact Bool.false_ne_true), keys_map' ps]
    rfl
  | .key k :: ps => by
    rw [List.map_cons, List.filter_cons_of_pos (by rfl), keys_map' ps]
    rfl
theorem pgOk_of {K : Int} : ∀ {ps : List Pg}, (∀ k ∈ keysOf ps, 0 ≤ k ∧ k < K) → ∀ p ∈ ps, pgOk K p
  | q :: ps, h, p, hp => by
    rcases List.mem_cons.mp hp with rfl | hp
    · cases p with
      | key k => exact h k (List.mem_cons_self ..)
      | _ => trivial
    · refine pgOk_of (ps := ps) (fun k hk => h k ?_) p hp
      cases q with
      | key j => exact List.mem_cons_of_mem _ hk
      | _ => exact hk
structure BsOk (K : Int) (pages : Nat) (bs : List (Lf × List Pg)) : Prop where
  b1 : 1 ≤ bs.length
  b2 : bs.length ≤ 9
  p1 : 1 ≤ pages
  p2 : pages ≤ 6
  bk : ∀ b ∈ bs, BkOk pages b
  nd : (allKeys bs).Nodup
  kr : ∀ k ∈ allKeys bs, 0 ≤ k ∧ k < K
theorem mem_allKeys {bs : List (Lf × List Pg)} {b : Lf × List Pg} (hb : b ∈ bs) {k : Int} (hk : k ∈ keysOf b.2) : k ∈ allKeys bs := List.mem_flatten.mpr ⟨_, List.mem_map.mpr ⟨b, hb, rfl⟩, hk⟩
theorem SdOk.bs {S : Sd} {pages : Nat} (o : SdOk S pages) : BsOk S.keys pages S.blocks := ⟨o.b1, o.b2, o.p1, o.p2, o.bk, o.nd, o.kr⟩
theorem ab_all {K : Int} {pages : Nat} {bs : List (Lf × List Pg)} (o : BsOk K pages bs) {nb : Nat} {h : Hm} (hb : h[nb]? = some (.lst (bs.map bD))) {a4 a5 a6 a2 : Option D} :
    ∃ t2, eLc (fiSeq (eVar 0)) (tName 3) (eC (.bl true)) (eArgs m_is_block [(eVar 3), (eVar 1)]) [3] [some (.ref nb), some (.int K), a2, none, a4, a5, a6] h = .ok (.ref h.length) (h ++ .lst ((bs.map fun _ => true).map D.bl) :: t2) := by
  obtain ⟨t2, r⟩ := elc_ok (fi := fiSeq (eVar 0)) (gt := tName 3) (ft := eC (.bl true)) (fe := (eArgs m_is_block [(eVar 3), (eVar 1)])) (own := [3]) (s := [some (.ref nb), some (.int K), a2, none, a4, a5, a6]) (h := h) (ck := some (nb, bs.map bD)) (xs := bs.map bD) (val := fun _ => .bl true) (tt := fun _ => true)
    (fi_ref rfl hb) (chk_old hb) (fun x hx u => by
      obtain ⟨b, hbm, rfl⟩ := List.mem_map.mp hx
      obtain ⟨t, e⟩ := x_isblock b pages K (o.bk b hbm) o.p1 o.p2 (pgOk_of fun k hk => o.kr k (mem_allKeys hbm hk)) (h ++ u)
      refine ⟨[some (.ref nb), some (.int K), a2, some (bD b), a4, a5, a6], t, rfl, rfl, fun _ => ?_⟩
      simp only [x_args, evR_cons, evR_nil, x_var, List.getElem?_cons_zero, List.getElem?_cons_succ, ofO_some, RD.bind_ok, e]) (by simp; have := o.b2; omega)
  refine ⟨t2, ?_⟩
  rw [r, List.filter_eq_self.mpr (fun _ _ => rfl), List.map_map, List.map_map]
  rfl
theorem ab_any {K : Int} {pages : Nat} {bs : List (Lf × List Pg)} (o : BsOk K pages bs) {nb : Nat} {h : Hm} (hb : h[nb]? = some (.lst (bs.map bD))) {a3 a6 a2 : Option D} :
    ∃ t2, eLc (fiSeq (eVar 0)) (tTup [(tName 4), (tName 5)]) (eC (.bl true)) (eBin dNe (eArgs bLen [(eVar 5)]) (eArgs bLen [(eBin dIx (eBin dIx (eVar 0) (eC (.int 0))) (eC (.int 1)))])) [4, 5] [some (.ref nb), some (.int K), a2, a3, none, none, a6] h = .ok (.ref h.length) (h ++ .lst ((bs.map fun _ => false).map D.bl) :: t2) := by
  obtain ⟨b0, bs', rfl⟩ : ∃ b0 bs', bs = b0 :: bs' := by
    cases bs with
    | nil => have := o.b1; simp at this
    | cons b bs => exact ⟨b, bs, rfl⟩
  obtain ⟨t2, r⟩ := elc_ok (fi := fiSeq (eVar 0)) (gt := (tTup [(tName 4), (tName 5)])) (ft := eC (.bl true)) (fe := (eBin dNe (eArgs bLen [(eVar 5)]) (eArgs bLen [(eBin dIx (eBin dIx (eVar 0) (eC (.int 0))) (eC (.int 1)))]))) (own := [4, 5]) (s := [some (.ref nb), some (.int K), a2, a3, none, none, a6]) (h := h) (ck := some (nb, (b0 :: bs').map bD)) (xs := (b0 :: bs').map bD) (val := fun _ => .bl false) (tt := fun _ => true)
    (fi_ref rfl hb) (chk_old hb) (fun x hx u => by
      obtain ⟨b, hbm, rfl⟩ := List.mem_map.mp hx
      refine ⟨[some (.ref nb), some (.int K), a2, a3, some (lD b.1), some (.tup (b.2.map pD)), a6], [], rfl, rfl, fun _ => ?_⟩
      have e0 : dIx (.ref nb) (.int 0) (h ++ u) = .ok (bD b0) (h ++ u) := ix_ref (k := 0) (by rw [List.getElem?_append_left (lt_of_get hb)]; exact hb) rfl
      have e1 : dIx (bD b0) (.int 1) (h ++ u) = .ok (.tup (b0.2.map pD)) (h ++ u) := ix_tup (k := 1) rfl
      have l1 := (o.bk b hbm).2.1
      have l0 := (o.bk b0 (List.mem_cons_self ..)).2.1
      simp only [x_bin, x_args, evR_cons, evR_nil, x_var, x_c, List.getElem?_cons_zero, List.getElem?_cons_succ, ofO_some, RD.bind_ok, e0, e1, o_len_t, List.length_map, l1, l0, nq_int, decide_true, Bool.not_true, List.append_nil]) (by simp; have := o.b2; simp at this; omega)
  refine ⟨t2, ?_⟩
  rw [r, List.filter_eq_self.mpr (fun _ _ => rfl), List.map_map, List.map_map]
  rfl
def pagesOf : D → List D
  | .tup [_, .tup ps] => ps
  | _ => []
theorem flat_keys : ∀ bs : List (Lf × List Pg), ((bs.map bD).map fun x => ((pagesOf x).filter notStr).map id).flatten = (allKeys bs).map D.int
  | [] => rfl
  | b :: bs => by
    have e : ((pagesOf (bD b)).filter notStr).map id = (keysOf b.2).map D.int := by
      rw [List.map_id]
      exact keys_map' b.2
    simp only [List.map_cons, List.flatten_cons, e, flat_keys bs]
    simp [allKeys]
theorem sum_le : ∀ (bs : List (Lf × List Pg)) (n : Nat), (∀ b ∈ bs, b.2.length ≤ n) → ((bs.map bD).map fun x => (pagesOf x).length).sum ≤ bs.length * n
  | [], n, _ => by simp
  | b :: bs, n, h => by
    have h1 := h b (List.mem_cons_self ..)
    have h2 := sum_le bs n fun c hc => h c (List.mem_cons_of_mem _ hc)
    have e : (pagesOf (bD b)).length = b.2.length := by simp [bD, pagesOf]
    simp only [List.map_cons, List.sum_cons, List.length_cons, e, Nat.succ_mul]
    omega
theorem ab_held {K : Int} {pages : Nat} {bs : List (Lf × List Pg)} (o : BsOk K pages bs) {nb : Nat} {h : Hm} (hb : h[nb]? = some (.lst (bs.map bD))) {a3 a2 : Option D} :
    ∃ t2, eLc2 (fiSeq (eVar 0)) (tTup [(tName 4), (tName 5)]) (eC (.bl true)) (fiSeq (eVar 5)) (tName 6) (eNot (eIsi "str" (eVar 6))) (eVar 6) [4, 5, 6] [6] [some (.ref nb), some (.int K), a2, a3, none, none, none] h = .ok (.ref h.length) (h ++ .lst ((allKeys bs).map D.int) :: t2) := by
  obtain ⟨t2, r⟩ := elc2_ok (fi := fiSeq (eVar 0)) (gt := (tTup [(tName 4), (tName 5)])) (fi1 := fiSeq (eVar 5)) (gt1 := tName 6) (ft1 := eNot (eIsi "str" (eVar 6))) (fe := eVar 6) (own := [4, 5, 6]) (vs1 := [6]) (s := [some (.ref nb), some (.int K), a2, a3, none, none, none]) (h := h) (ck := some (nb, bs.map bD)) (xs := bs.map bD) (ys := pagesOf) (val := fun _ y => y) (tt := fun _ y => notStr y)
    (fi_ref rfl hb) (chk_old hb) (fun x hx => by
      obtain ⟨b, hbm, rfl⟩ := List.mem_map.mp hx
      refine ⟨[some (.ref nb), some (.int K), a2, a3, some (lD b.1), some (.tup (b.2.map pD)), none], fun u => ⟨rfl, fi_tup rfl⟩, fun y hy u => ?_⟩
      obtain ⟨p, hp, rfl⟩ := List.mem_map.mp (show y ∈ b.2.map pD from hy)
      refine ⟨[some (.ref nb), some (.int K), a2, a3, some (lD b.1), some (.tup (b.2.map pD)), some (pD p)], [], rfl, ?_, fun _ => by rw [List.append_nil]; rfl⟩
      cases p with
      | free => simp [pD, notStr, kit_table]
      | old => simp [pD, notStr, kit_table]
      | key k => simp [pD, notStr, kit_table]) (by
      have := sum_le bs 6 fun b hb => by rw [(o.bk b hb).2.1]; exact o.p2
      have := o.b2
      omega)
  refine ⟨t2, ?_⟩
  rw [r]
  have := flat_keys bs
  simp only [List.map_id] at this
  rw [← this]
  simp
end Sh.k09
/-! from Q03j -/
set_option linter.all false
set_option maxRecDepth 100000
namespace Sh.k09
open PySem L2 PyProof.Rows Sh
theorem ints_map : ∀ ns : List Int, intsD (ns.map D.int) = some ns
  | [] => rfl
  | n :: ns => by simp [intsD, ints_map ns]
theorem met_nodup {ns : List Int} (h : ns.Nodup) : (metI ns).length = ns.length := by
  unfold metI
  rw [RZ.firstMet_nodup h ns.length (Nat.le_refl _), List.take_length]
theorem lenSet_ok {f : FE} {s : DS} {h : Hm} {n : Nat} {ns : List Int} (e : f s h = .ok (.ref n) h) (e1 : h[n]? = some (.lst (ns.map D.int))) (hn : ns.Nodup) (hl : ns.length ≤ 4000) : eLenSet f s h = .ok (.int ns.length) h := by
  have hm := met_nodup hn
  simp [eLenSet, e, items, e1, ints_map, hl, hm]
theorem keys_len {K : Int} {pages : Nat} {bs : List (Lf × List Pg)} (o : BsOk K pages bs) : (allKeys bs).length ≤ 4000 := by
  have key : ∀ (ps : List Pg), (keysOf ps).length ≤ ps.length := by
    intro ps
    induction ps with
    | nil => exact Nat.le_refl _
    | cons p ps ih =>
      cases p <;> simp [keysOf] <;> omega
  have : ∀ (cs : List (Lf × List Pg)), (∀ b ∈ cs, b.2.length ≤ 6) → (allKeys cs).length ≤ cs.length * 6 := by
    intro cs
    induction cs with
    | nil => intro _; simp [allKeys]
    | cons b cs ih =>
      intro h
      have h1 := h b (List.mem_cons_self ..)
      have h2 := ih fun c hc => h c (List.mem_cons_of_mem _ hc)
      have h3 := key b.2
      have e : allKeys (b :: cs) = keysOf b.2 ++ allKeys cs := by simp [allKeys]
      rw [e, List.length_append, List.length_cons, Nat.succ_mul]
      omega
  have h1 := this bs fun b hb => by rw [(o.bk b hb).2.1]; exact o.p2
  have := o.b2
  omega
theorem x_areblocks {K : Int} {pages : Nat} {bs : List (Lf × List Pg)} (o : BsOk K pages bs) {nb : Nat} {h : Hm} (hb : h[nb]? = some (.lst (bs.map bD))) : ∃ t, m_are_blocks [.ref nb, .int K] h = .ok (.bl true) (h ++ t) := by
  obtain ⟨t1, r1⟩ := ab_all o hb (a2 := none) (a4 := none) (a5 := none) (a6 := none)
  obtain ⟨h1, eh1⟩ : ∃ h1 : Hm, h1 = h ++ .lst ((bs.map fun _ => true).map D.bl) :: t1 := ⟨_, rfl⟩
  rw [← eh1] at r1
  have hb1 : h1[nb]? = some (.lst (bs.map bD)) := by
    rw [eh1, List.getElem?_append_left (lt_of_get hb)]
    exact hb
  obtain ⟨t2, r2⟩ := ab_any o hb1 (a2 := none) (a3 := none) (a6 := none)
  obtain ⟨h2, eh2⟩ : ∃ h2 : Hm, h2 = h1 ++ .lst ((bs.map fun _ => false).map D.bl) :: t2 := ⟨_, rfl⟩
  rw [← eh2] at r2
  have hb2 : h2[nb]? = some (.lst (bs.map bD)) := by
    rw [eh2, List.getElem?_append_left (lt_of_get hb1)]
    exact hb1
  obtain ⟨t3, r3⟩ := ab_held o hb2 (a2 := none) (a3 := none)
  obtain ⟨h3, eh3⟩ : ∃ h3 : Hm, h3 = h2 ++ .lst ((allKeys bs).map D.int) :: t3 := ⟨_, rfl⟩
  rw [← eh3] at r3
  refine ⟨.lst ((bs.map fun _ => true).map D.bl) :: t1 ++ (.lst ((bs.map fun _ => false).map D.bl) :: t2 ++ .lst ((allKeys bs).map D.int) :: t3), ?_⟩
  have q1 : bQuant (fun bs => bs.all id) [.ref h.length] h1 = .ok (.bl true) h1 := by
    rw [quant_ok (bs := bs.map fun _ => true) (by simp [eh1])]
    simp
  have q2 : bQuant (fun bs => bs.any id) [.ref h1.length] h2 = .ok (.bl false) h2 := by
    rw [quant_ok (bs := bs.map fun _ => false) (by simp [eh2])]
    simp
  have g3 : h3[h2.length]? = some (.lst ((allKeys bs).map D.int)) := by simp [eh3]
  have hlen : ∀ H : Hm, H[nb]? = some (.lst (bs.map bD)) → bLen [.ref nb] H = .ok (.int bs.length) H := fun H e => by rw [len_ref e, List.length_map]
  have c9 : 1 ≤ (bs.length : Int) ∧ (bs.length : Int) ≤ 9 := ⟨by have := o.b1; omega, by have := o.b2; omega⟩
  have tl : isiB "list" h (.ref nb) = some true := by rw [t_lst hb]; simp [kit_table]
  have ls := lenSet_ok (f := eVar 2) (s := [some (.ref nb), some (.int K), some (.ref h2.length), none, none, none, none]) (h := h3) rfl g3 o.nd (keys_len o)
  have ll := len_ref g3
  rw [List.length_map] at ll
  simp only [m_are_blocks, x_run, g_are_blocks]
  simp only [List.map_cons, List.map_nil, List.length_cons, List.length_nil, Nat.zero_add, Nat.reduceAdd, Nat.reduceSub, List.reduceReplicate, List.cons_append, List.nil_append, x_seq, x_if, x_or, x_not, x_isi, x_var, List.getElem?_cons_zero, List.getElem?_cons_succ, ofO_some, RD.bind_ok, tl, tb_ok, Bool.not_true, Bool.false_eq_true, if_false, x_chain, x_c, x_args, evR_cons, evR_nil, hlen h hb, o_cmp, decide_eq_true_eq, c9.1, c9.2, if_true, decide_true, tst_ok, x_next, seq_nx, r1, q1, r2, q2, x_set, r3, RD.st_ok, List.set_cons_succ, List.set_cons_zero, x_ret, x_bin, ll, ls, q_int, out_rt]
  rw [eh3, eh2, eh1]
  simp
end Sh.k09
/-! from Q03k -/
set_option linter.all false
set_option maxRecDepth 100000
namespace Sh.k09
open PySem L2 PyProof.Rows Sh
theorem x_wrong {S : Sd} {pages : Nat} (o : SdOk S pages) {nb : Nat} {h : Hm} (hb : h[nb]? = some (.lst (S.blocks.map bD))) : ∃ t, m_wrong_part [.int S.keys, .ref nb, .int S.fails, .int S.cuts, dueD S.due] h = .ok .non (h ++ t) := by
  obtain ⟨t, e⟩ := x_areblocks o.bs hb
  refine ⟨t, ?_⟩
  have c1 : 1 ≤ S.keys ∧ S.keys ≤ 9 := ⟨o.k1, o.k2⟩
  have c2 := o.f
  have c3 := o.c
  simp only [m_wrong_part, x_run, g_wrong_part]
  simp only [List.map_cons, List.map_nil, List.length_cons, List.length_nil, Nat.zero_add, Nat.reduceAdd, Nat.reduceSub, List.reduceReplicate, List.replicate_zero, List.append_nil, List.cons_append, List.nil_append, x_seq, x_if, x_not, x_and, x_args, evR_cons, evR_nil, x_var, x_c, List.getElem?_cons_zero, List.getElem?_cons_succ, ofO_some, RD.bind_ok, x_iw, c1, c2, c3, and_self, decide_true, tb_ok, Bool.not_true, tst_ok, Bool.false_eq_true, if_false, x_next, seq_nx, e, x_bin, o_isN_n]
  cases hd : S.due with
  | none => simp [dueD]
  | some k =>
    have c4 := o.d k hd
    have c5 : 0 ≤ k ∧ k ≤ S.keys - 1 := ⟨c4.1, by omega⟩
    simp [dueD, x_ik, c5]
def stO (S : Sd) : O := .ins "Stand" [("_shape", S.enc)]
theorem x_init {S : Sd} {pages : Nat} (o : SdOk S pages) {nb p : Nat} {h : Hm} (hb : h[nb]? = some (.lst (S.blocks.map bD))) (hp : h[p]? = some (.ins "Stand" [])) : ∃ t, m_Stand_init [.ref p, .int S.keys, .ref nb, .int S.fails, .int S.cuts, dueD S.due] h = .ok .non (h.set p (stO S) ++ t) := by
  obtain ⟨t, e⟩ := x_wrong o hb
  refine ⟨t, ?_⟩
  have hb1 : (h ++ t)[nb]? = some (.lst (S.blocks.map bD)) := by rw [List.getElem?_append_left (lt_of_get hb)]; exact hb
  have hp1 : (h ++ t)[p]? = some (.ins "Stand" []) := by rw [List.getElem?_append_left (lt_of_get hp)]; exact hp
  simp only [m_Stand_init, x_run, g_Stand_init]
  simp only [List.map_cons, List.map_nil, List.length_cons, List.length_nil, Nat.zero_add, Nat.reduceAdd, Nat.reduceSub, List.reduceReplicate, List.cons_append, List.nil_append, x_seq, x_set, x_if, x_args, evR_cons, evR_nil, x_var, x_c, List.getElem?_cons_zero, List.getElem?_cons_succ, ofO_some, RD.bind_ok, e, RD.st_ok, seq_nx, List.set_cons_succ, List.set_cons_zero, x_bin, o_isN_n, decide_true, Bool.not_true, tst_ok, Bool.false_eq_true, if_false, x_next]
  have ev : (eTup [(eVar 1), (eArgs bTuple [(eVar 2)]), (eVar 3), (eVar 4), (eVar 5)]) [some (.ref p), some (.int S.keys), some (.ref nb), some (.int S.fails), some (.int S.cuts), some (dueD S.due), some .non] (h ++ t) = .ok S.enc (h ++ t) := by
    simp only [x_tup, x_args, evR_cons, evR_nil, x_var, List.getElem?_cons_zero, List.getElem?_cons_succ, ofO_some, RD.bind_ok, tup_ref hb1]
    rfl
  have hc : True ∧ ([] : List (Str × D)).length < 900 := ⟨trivial, by decide⟩
  simp only [gPut, ev, RD.st_ok, x_var, List.getElem?_cons_zero, ofO_some, hp1]
  rw [if_pos hc]
  simp only [out_nx, putD]
  rw [List.set_append_left _ _ (lt_of_get hp)]
  rfl
theorem x_stand {S : Sd} {pages : Nat} (o : SdOk S pages) (h : Hm) : ∃ (p : Nat) (t : Hm), m__law_stand [S.enc] h = .ok (.ref p) (h ++ t) ∧ (h ++ t)[p]? = some (stO S) ∧ h.length ≤ p := by
  have hb : (h ++ [O.lst (S.blocks.map bD)] ++ [O.ins "Stand" []])[h.length]? = some (.lst (S.blocks.map bD)) := by
    rw [get_old (by simp)]
    exact get_last
  have hp : (h ++ [O.lst (S.blocks.map bD)] ++ [O.ins "Stand" []])[(h ++ [O.lst (S.blocks.map bD)]).length]? = some (.ins "Stand" []) := get_last
  obtain ⟨t, e⟩ := x_init o hb hp
  rw [set_last] at e
  refine ⟨(h ++ [O.lst (S.blocks.map bD)]).length, [O.lst (S.blocks.map bD)] ++ [stO S] ++ t, ?_, ?_, by simp⟩
  · have j0 : ∀ H : Hm, dIx S.enc (.int 0) H = .ok (.int S.keys) H := fun H => ix_tup (k := 0) rfl
    have j1 : ∀ H : Hm, dIx S.enc (.int 1) H = .ok (.tup (S.blocks.map bD)) H := fun H => ix_tup (k := 1) rfl
    have j2 : ∀ H : Hm, dIx S.enc (.int 2) H = .ok (.int S.fails) H := fun H => ix_tup (k := 2) rfl
    have j3 : ∀ H : Hm, dIx S.enc (.int 3) H = .ok (.int S.cuts) H := fun H => ix_tup (k := 3) rfl
    have j4 : ∀ H : Hm, dIx S.enc (.int 4) H = .ok (dueD S.due) H := fun H => ix_tup (k := 4) rfl
    have bl : ∀ H : Hm, bList [.tup (S.blocks.map bD)] H = .ok (.ref H.length) (H ++ [.lst (S.blocks.map bD)]) := fun H => rfl
    simp only [m__law_stand, x_run, g__law_stand]
    simp only [List.map_cons, List.map_nil, List.length_cons, List.length_nil, Nat.zero_add, Nat.reduceAdd, Nat.reduceSub, List.reduceReplicate, List.replicate_zero, List.append_nil, List.cons_append, List.nil_append, x_ret, eMake, evalL, x_bin, x_args, evR_cons, evR_nil, x_var, x_c, List.getElem?_cons_zero, ofO_some, RD.bind_ok, j0, j1, j2, j3, j4, bl, dMake, e, RD.st_ok, out_rt]
    simp
  · have : h ++ ([O.lst (S.blocks.map bD)] ++ [stO S] ++ t) = (h ++ [O.lst (S.blocks.map bD)]) ++ stO S :: t := by simp
    rw [this]
    simp
end Sh.k09
/-! from Q03l -/
set_option linter.all false
set_option maxRecDepth 100000
namespace Sh.k09
open PySem L2 PyProof.Rows Sh
/-! ### the stand's own methods -/
theorem fld_ok {S : Sd} {f : FE} {s : DS} {h h1 : Hm} {p : Nat} (e : f s h = .ok (.ref p) h1) (hp : h1[p]? = some (stO S)) : eFld "Stand" "_shape" f s h = .ok S.enc h1 := by
  simp only [eFld, e, RD.bind_ok, hp, stO]
  simp [List.lookup]
theorem meth_okv {S : Sd} {m : Str} {F : FF} {f : FE} {l : List FE} {s : DS} {h h1 : Hm} {p : Nat} (e : f s h = .ok (.ref p) h1) (hp : h1[p]? = some (stO S)) (hm : m ≠ "_shape") : eMeth "Stand" m F f l s h = evR l s h1 fun ds h2 => F (.ref p :: ds) h2 := by
  have hl : List.lookup m [(("_shape" : Str), S.enc)] = none := by
    have : (m == ("_shape" : Str)) = false := beq_eq_false_iff_ne.mpr hm
    simp [List.lookup, this]
  simp only [eMeth, e, RD.bind_ok, hp, stO, hl, and_self, if_true]
  exact x_args
theorem x_shape {S : Sd} {h : Hm} {p : Nat} (hp : h[p]? = some (stO S)) : m_Stand_shape [.ref p] h = .ok S.enc h := by
  simp only [m_Stand_shape, x_run, g_Stand_shape, x_ret]
  rw [fld_ok (S := S) (p := p) (h1 := h) rfl hp]
  rfl
theorem x_many {S : Sd} {h : Hm} {p : Nat} (hp : h[p]? = some (stO S)) : m_Stand_many [.ref p] h = .ok (.int S.keys) h := by
  simp only [m_Stand_many, x_run, g_Stand_many, x_ret, x_bin]
  rw [fld_ok (S := S) (p := p) (h1 := h) rfl hp]
  have j0 : dIx S.enc (.int 0) h = .ok (.int S.keys) h := ix_tup (k := 0) rfl
  simp only [RD.bind_ok, x_c, j0, RD.st_ok, out_rt]
theorem x_asked {S : Sd} {h : Hm} {p : Nat} (hp : h[p]? = some (stO S)) : m_Stand_asked [.ref p] h = .ok (dueD S.due) h := by
  simp only [m_Stand_asked, x_run, g_Stand_asked, x_ret, x_bin]
  rw [fld_ok (S := S) (p := p) (h1 := h) rfl hp]
  have j0 : dIx S.enc (.int 4) h = .ok (dueD S.due) h := ix_tup (k := 4) rfl
  simp only [RD.bind_ok, x_c, j0, RD.st_ok, out_rt]
theorem put_ok {S : Sd} {pages : Nat} (o : SdOk S pages) {k : Int} (hk : 0 ≤ k ∧ k < S.keys) : SdOk { S with due := some k } pages :=
  ⟨o.k1, o.k2, o.b1, o.b2, o.p1, o.p2, o.bk, o.nd, o.kr, o.f, o.c, fun j hj => by cases hj; exact hk⟩
end Sh.k09
/-! from Q03m -/
set_option linter.all false
set_option maxRecDepth 100000
namespace Sh.k09
open PySem L2 PyProof.Rows Sh
/-! ### _law_same of data with itself -/
mutual
def pureD : Nat → D → Bool
  | _, .non => true
  | _, .bl _ => true
  | _, .int _ => true
  | _, .str _ => true
  | n + 1, .tup ds => pureL n ds && decide (ds.length < 1000000)
  | _, _ => false
def pureL : Nat → List D → Bool
  | _, [] => true
  | n, d :: ds => pureD n d && pureL n ds
end
theorem pureL_all : ∀ {n : Nat} {ds : List D}, pureL n ds = true → ∀ d ∈ ds, pureD n d = true
  | n, d :: ds, h, e, he => by
    simp only [pureL, Bool.and_eq_true] at h
    rcases List.mem_cons.mp he with rfl | he
    · exact h.1
    · exact pureL_all h.2 e he
theorem same_loop {F : FF} {xs : List D} {a b : D} {h : Hm} (ha : ∀ H k x, xs[k]? = some x → dIx a (.int (k : Nat)) h = .ok x h ∧ dIx b (.int (k : Nat)) h = .ok x h ∧ H = h ∨ True) (hF : ∀ x ∈ xs, F [x, x] h = .ok (.bl true) h) (hia : ∀ k x, xs[k]? = some x → dIx a (.int (k : Nat)) h = .ok x h) (hib : ∀ k x, xs[k]? = some x → dIx b (.int (k : Nat)) h = .ok x h) :
    ∀ (j k : Nat) (x2 : Option D), k + j = xs.length → ∃ x2', loopG none (tName 2) (gIf (eNot (eArgs F [(eBin dIx (eVar 0) (eVar 2)), (eBin dIx (eVar 1) (eVar 2))])) (gRet (eC (.bl false))) gNext) ((List.range' k j).map fun i => D.int (i : Nat)) [some a, some b, x2] h = .nx [some a, some b, x2'] h
  | 0, k, x2, _ => ⟨x2, by rw [List.range'_zero, List.map_nil, loop_nil chk_none]⟩
  | j + 1, k, x2, hk => by
    have hlt : k < xs.length := by omega
    obtain ⟨x2', e⟩ := same_loop ha hF hia hib j (k + 1) (some (.int (k : Nat))) (by omega)
    refine ⟨x2', ?_⟩
    rw [List.range'_succ, List.map_cons, loop_cons chk_none (s1 := [some a, some b, some (.int (k : Nat))]) (h1 := h) rfl]
    have e1 := hia k _ (List.getElem?_eq_getElem hlt)
    have e2 := hib k _ (List.getElem?_eq_getElem hlt)
    simp only [x_if, x_not, x_args, evR_cons, evR_nil, x_bin, x_var, List.getElem?_cons_zero, List.getElem?_cons_succ, ofO_some, RD.bind_ok, e1, e2, hF _ (List.getElem_mem hlt), tb_ok, Bool.not_true, tst_ok, Bool.false_eq_true, if_false, x_next, lp_nx, e]
theorem same_tail {F : FF} {xs : List D} {a b : D} {h : Hm} (hn : b ≠ .non ∧ b ≠ .bl true ∧ b ≠ .bl false) (ti : isiB "int" h b = some false) (ts : isiB "str" h b = some false) (tt : (isiB "tuple" h b = some true ∧ isiB "tuple" h a = some true ∧ isiB "list" h b = some false) ∨ (isiB "tuple" h b = some false ∧ isiB "list" h b = some true ∧ isiB "list" h a = some true))
    (la : bLen [a] h = .ok (.int xs.length) h) (lb : bLen [b] h = .ok (.int xs.length) h) (hl : xs.length < 1000000)
    (hF : ∀ x ∈ xs, F [x, x] h = .ok (.bl true) h) (hia : ∀ k x, xs[k]? = some x → dIx a (.int (k : Nat)) h = .ok x h) (hib : ∀ k x, xs[k]? = some x → dIx b (.int (k : Nat)) h = .ok x h) : runB 3 (g__law_same F) [a, b] h = .ok (.bl true) h := by
  obtain ⟨x2', e⟩ := same_loop (a := a) (b := b) (h := h) (fun _ _ _ _ => .inr trivial) hF hia hib xs.length 0 none (Nat.zero_add _)
  simp only [x_run, g__law_same]
  simp only [List.map_cons, List.map_nil, List.length_cons, List.length_nil, Nat.zero_add, Nat.reduceAdd, Nat.reduceSub, List.reduceReplicate, List.cons_append, List.nil_append, x_seq, x_if, x_bin, x_var, x_c, List.getElem?_cons_zero, List.getElem?_cons_succ, ofO_some, RD.bind_ok, o_is_n, o_is_b, tst_ok, hn.1, hn.2.1, hn.2.2, decide_false, Bool.false_eq_true, if_false, x_next, seq_nx, x_isi, ti, ts, x_and, x_not]
  have hf : gFor (fiRg [eArgs bLen [eVar 1]]) (tName 2) (gIf (eNot (eArgs F [(eBin dIx (eVar 0) (eVar 2)), (eBin dIx (eVar 1) (eVar 2))])) (gRet (eC (.bl false))) gNext) [some a, some b, none] h = .nx [some a, some b, x2'] h := by
    rw [for_ok (fi_rg (h1 := h) (j := (xs.length : Int)) (by simp only [x_args, evR_cons, evR_nil, x_var, List.getElem?_cons_zero, List.getElem?_cons_succ, ofO_some, RD.bind_ok, lb]) (by omega) (by omega)), Int.toNat_natCast, List.range_eq_range', e]
  rcases tt with ⟨t1, t2, t3⟩ | ⟨t1, t2, t3⟩
  · simp only [t1, t2, t3, x_seq, x_if, x_and, x_isi, x_not, tb_ok, if_true, Bool.not_true, tst_ok, Bool.false_eq_true, if_false, x_next, seq_nx, x_args, evR_cons, evR_nil, x_bin, x_var, List.getElem?_cons_zero, List.getElem?_cons_succ, ofO_some, RD.bind_ok, la, lb, nq_int, decide_true, hf, x_ret, x_c, RD.st_ok, out_rt]
  · simp only [t1, t2, t3, x_seq, x_if, x_and, x_isi, x_not, tb_ok, if_true, Bool.not_true, tst_ok, Bool.false_eq_true, if_false, x_next, seq_nx, x_args, evR_cons, evR_nil, x_bin, x_var, List.getElem?_cons_zero, List.getElem?_cons_succ, ofO_some, RD.bind_ok, la, lb, nq_int, decide_true, hf, x_ret, x_c, RD.st_ok, out_rt]
theorem x_same : ∀ (n : Nat) (d : D) (h : Hm), pureD n d = true → m__law_same (n + 1) [d, d] h = .ok (.bl true) h
  | n, .non, h, _ => by simp [m__law_same, x_run, g__law_same]
  | n, .bl true, h, _ => by simp [m__law_same, x_run, g__law_same]
  | n, .bl false, h, _ => by simp [m__law_same, x_run, g__law_same]
  | n, .int i, h, _ => by simp [m__law_same, x_run, g__law_same, kit_table]
  | n, .str i, h, _ => by simp [m__law_same, x_run, g__law_same, kit_table]
  | 0, .tup ds, h, p => by simp [pureD] at p
  | n + 1, .tup ds, h, p => by
    simp only [pureD, Bool.and_eq_true, decide_eq_true_eq] at p
    exact same_tail (xs := ds) ⟨by simp, by simp, by simp⟩ (by simp [kit_table]) (by simp [kit_table]) (.inl ⟨by simp [kit_table], by simp [kit_table], by simp [kit_table]⟩) rfl rfl p.2 (fun x hx => x_same n x h (pureL_all p.1 x hx)) (fun k x e => ix_tup e) (fun k x e => ix_tup e)
  | n, .ref k, h, p => by cases n <;> simp [pureD] at p
  | n, .scl k, h, p => by cases n <;> simp [pureD] at p
theorem x_sameL {n a b : Nat} {xs : List D} {h : Hm} (ha : h[a]? = some (.lst xs)) (hb : h[b]? = some (.lst xs)) (p : pureL n xs = true) (hl : xs.length < 1000000) : m__law_same (n + 2) [.ref a, .ref b] h = .ok (.bl true) h :=
  same_tail (xs := xs) ⟨by simp, by simp, by simp⟩ (by rw [t_lst hb]; simp [kit_table]) (by rw [t_lst hb]; simp [kit_table]) (.inr ⟨by rw [t_lst hb]; simp [kit_table], by rw [t_lst hb]; simp [kit_table], by rw [t_lst ha]; simp [kit_table]⟩) (len_ref ha) (len_ref hb) hl (fun x hx => x_same n x h (pureL_all p x hx)) (fun k x e => ix_ref ha e) (fun k x e => ix_ref hb e)
end Sh.k09
/-! from Q03n -/
set_option linter.all false
set_option maxRecDepth 100000
namespace Sh.k09
open PySem L2 PyProof.Rows Sh
section
variable {S : Sd} {pages : Nat} {h : Hm} {p : Nat}
theorem is_key_eval {d : D} {b : Bool} {s : DS} (hp : h[p]? = some (stO S)) (hk : m_is_key [d, .int S.keys] h = .ok (.bl b) h) : (eArgs m_is_key [(eVar 1), (eMeth "Stand" "many" m_Stand_many (eVar 0) [])]) (some (.ref p) :: some d :: s) h = .ok (.bl b) h := by
  have e : eMeth "Stand" "many" m_Stand_many (eVar 0) [] (some (.ref p) :: some d :: s) h = .ok (.int S.keys) h := by
    rw [meth_okv (S := S) (p := p) (h1 := h) rfl hp (by decide), evR_nil, x_many hp]
  simp only [x_args, evR_cons, evR_nil, x_var, List.getElem?_cons_zero, List.getElem?_cons_succ, ofO_some, RD.bind_ok, e, hk]
end
end Sh.k09
/-! from Q03o -/
set_option linter.all false
set_option maxRecDepth 100000
namespace Sh.k09
open PySem L2 PyProof.Rows Sh
/-! ### places -/
def plP (b : Nat) : Nat → List Pg → List (Int × Nat × Nat)
  | _, [] => []
  | p, .key k :: r => (k, b, p) :: plP b (p + 1) r
  | p, _ :: r => plP b (p + 1) r
def plB : Nat → List (Lf × List Pg) → List (Int × Nat × Nat)
  | _, [] => []
  | b, x :: r => plP b 0 x.2 ++ plB (b + 1) r
def kvT (t : Int × Nat × Nat) : Key × D := (.inl t.1, .tup [.int (t.2.1 : Nat), .int (t.2.2 : Nat)])
theorem plP_keys (b : Nat) : ∀ (p : Nat) (ps : List Pg), (plP b p ps).map (·.1) = keysOf ps
  | _, [] => rfl
  | p, .key k :: r => by simp [plP, keysOf, plP_keys b (p + 1) r]
  | p, .free :: r => by simp [plP, keysOf, plP_keys b (p + 1) r]
  | p, .old :: r => by simp [plP, keysOf, plP_keys b (p + 1) r]
theorem plB_keys : ∀ (b : Nat) (bs : List (Lf × List Pg)), (plB b bs).map (·.1) = allKeys bs
  | _, [] => rfl
  | b, x :: r => by
    have e : allKeys (x :: r) = keysOf x.2 ++ allKeys r := by simp [allKeys]
    rw [e, plB, List.map_append, plP_keys, plB_keys (b + 1) r]
theorem put_new {L : List (Int × Nat × Nat)} {k : Int} {v : D} (hn : k ∉ L.map (·.1)) : putKD (L.map kvT) (.inl k) v = L.map kvT ++ [(.inl k, v)] := by
  unfold putKD
  have : ((L.map kvT).any fun kv => decide (kv.1 = .inl k)) = false := by
    rw [List.any_eq_false]
    intro x hx
    obtain ⟨t, ht, rfl⟩ := List.mem_map.mp hx
    simp only [kvT, decide_eq_true_eq, Sum.inl.injEq]
    rintro rfl
    exact hn (List.mem_map.mpr ⟨t, ht, rfl⟩)
  rw [this]
  exact if_neg Bool.false_ne_true
abbrev bodyI : FS := (gIf (eNot (eIsi "str" (eVar 6))) (gDput (eVar 1) (eVar 6) (eTup [(eVar 2), (eVar 5)])) gNext)
theorem pl_inner (h : Hm) (a l g : D) (b : Nat) : ∀ (ps : List Pg) (p0 : Nat) (L : List (Int × Nat × Nat)) (x5 x6 : Option D), (L.map (·.1) ++ keysOf ps).Nodup → L.length + ps.length < 1000000 →
    ∃ x5' x6', loopG none (tTup [(tName 5), (tName 6)]) bodyI (enD p0 (ps.map pD)) [some a, some (.ref h.length), some (.int b), some l, some g, x5, x6] (h ++ [.dk (L.map kvT)]) = .nx [some a, some (.ref h.length), some (.int b), some l, some g, x5', x6'] (h ++ [.dk ((L ++ plP b p0 ps).map kvT)])
  | [], p0, L, x5, x6, _, _ => ⟨x5, x6, by
      rw [List.map_nil, enD, loop_nil chk_none]
      simp [plP]⟩
  | p :: ps, p0, L, x5, x6, nd, hl => by
    simp only [List.length_cons] at hl
    rw [List.map_cons, enD, loop_cons chk_none (s1 := [some a, some (.ref h.length), some (.int b), some l, some g, some (.int (p0 : Nat)), some (pD p)]) (h1 := h ++ [.dk (L.map kvT)]) rfl]
    cases p with
    | free =>
      obtain ⟨x5', x6', e⟩ := pl_inner h a l g b ps (p0 + 1) L (some (.int (p0 : Nat))) (some (pD .free)) nd (by omega)
      refine ⟨x5', x6', ?_⟩
      simp only [x_if, x_not, x_isi, x_var, List.getElem?_cons_zero, List.getElem?_cons_succ, ofO_some, RD.bind_ok, pD, t_str, kit_table, tb_ok, Bool.not_true, tst_ok, Bool.false_eq_true, if_false, x_next, lp_nx] at e ⊢
      exact e
    | old =>
      obtain ⟨x5', x6', e⟩ := pl_inner h a l g b ps (p0 + 1) L (some (.int (p0 : Nat))) (some (pD .old)) nd (by omega)
      refine ⟨x5', x6', ?_⟩
      simp only [x_if, x_not, x_isi, x_var, List.getElem?_cons_zero, List.getElem?_cons_succ, ofO_some, RD.bind_ok, pD, t_str, kit_table, tb_ok, Bool.not_true, tst_ok, Bool.false_eq_true, if_false, x_next, lp_nx] at e ⊢
      exact e
    | key k =>
      have hk : k ∉ L.map (·.1) := fun z => by
        have := (List.nodup_append.mp nd).2.2 k z k (List.mem_cons_self ..)
        exact this rfl
      have nd' : ((L ++ [(k, b, p0)]).map (·.1) ++ keysOf ps).Nodup := by
        rw [List.map_append, List.append_assoc]
        exact nd
      obtain ⟨x5', x6', e⟩ := pl_inner h a l g b ps (p0 + 1) (L ++ [(k, b, p0)]) (some (.int (p0 : Nat))) (some (pD (.key k))) nd' (by simp; omega)
      refine ⟨x5', x6', ?_⟩
      have gl : (h ++ [O.dk (L.map kvT)])[h.length]? = some (.dk (L.map kvT)) := get_last
      have hz : (L.map kvT).length < big := by show _ < 1000000; simp; omega
      have dp : (gDput (eVar 1) (eVar 6) (eTup [(eVar 2), (eVar 5)])) [some a, some (.ref h.length), some (.int b), some l, some g, some (.int (p0 : Nat)), some (pD (.key k))] (h ++ [.dk (L.map kvT)]) = .nx [some a, some (.ref h.length), some (.int b), some l, some g, some (.int (p0 : Nat)), some (pD (.key k))] (h ++ [.dk ((L ++ [(k, b, p0)]).map kvT)]) := by
        simp only [gDput, x_tup, evR_cons, evR_nil, x_var, List.getElem?_cons_zero, List.getElem?_cons_succ, ofO_some, RD.bind_ok, RD.st_ok, pD, keyD, gl]
        rw [if_pos hz, put_new hk, set_last, List.map_append]
        rfl
      have ti : isiB "str" (h ++ [O.dk (L.map kvT)]) (pD (.key k)) = some false := by simp [pD, kit_table]
      simp only [x_if, x_not, x_isi, x_var, List.getElem?_cons_zero, List.getElem?_cons_succ, ofO_some, RD.bind_ok, ti, tb_ok, Bool.not_false, tst_ok, if_true, dp, lp_nx]
      rw [e, List.append_assoc]
      rfl
abbrev bodyO : FS := (gFor (fiEn (eVar 4)) (tTup [(tName 5), (tName 6)]) bodyI)
theorem pl_outer (h : Hm) (a : D) : ∀ (bs : List (Lf × List Pg)) (b0 : Nat) (L : List (Int × Nat × Nat)) (x2 x3 x4 x5 x6 : Option D), (L.map (·.1) ++ allKeys bs).Nodup → (∀ b ∈ bs, b.2.length ≤ 6) → L.length + bs.length * 6 < 1000000 →
    ∃ x2' x3' x4' x5' x6', loopG none (tTup [(tName 2), (tTup [(tName 3), (tName 4)])]) bodyO (enD b0 (bs.map bD)) [some a, some (.ref h.length), x2, x3, x4, x5, x6] (h ++ [.dk (L.map kvT)]) = .nx [some a, some (.ref h.length), x2', x3', x4', x5', x6'] (h ++ [.dk ((L ++ plB b0 bs).map kvT)])
  | [], b0, L, x2, x3, x4, x5, x6, _, _, _ => ⟨x2, x3, x4, x5, x6, by
      rw [List.map_nil, enD, loop_nil chk_none]
      simp [plB]⟩
  | x :: bs, b0, L, x2, x3, x4, x5, x6, nd, h6, hl => by
    simp only [List.length_cons, Nat.succ_mul] at hl
    have hx := h6 x (List.mem_cons_self ..)
    have ea : allKeys (x :: bs) = keysOf x.2 ++ allKeys bs := by simp [allKeys]
    rw [ea, ← List.append_assoc] at nd
    obtain ⟨y5, y6, e1⟩ := pl_inner h a (lD x.1) (.tup (x.2.map pD)) b0 x.2 0 L x5 x6 (List.nodup_append.mp nd).1 (by omega)
    have lp : (plP b0 0 x.2).length ≤ x.2.length := by
      have := congrArg List.length (plP_keys b0 0 x.2)
      rw [List.length_map] at this
      rw [this]
      have key : ∀ (ps : List Pg), (keysOf ps).length ≤ ps.length := by
        intro ps
        induction ps with
        | nil => exact Nat.le_refl _
        | cons p ps ih => cases p <;> simp [keysOf] <;> omega
      exact key _
    obtain ⟨z2, z3, z4, z5, z6, e2⟩ := pl_outer h a bs (b0 + 1) (L ++ plP b0 0 x.2) (some (.int (b0 : Nat))) (some (lD x.1)) (some (.tup (x.2.map pD))) y5 y6 (by rw [List.map_append, plP_keys]; exact nd) (fun b hb => h6 b (List.mem_cons_of_mem _ hb)) (by rw [List.length_append]; omega)
    refine ⟨z2, z3, z4, z5, z6, ?_⟩
    rw [List.map_cons, enD, loop_cons chk_none (s1 := [some a, some (.ref h.length), some (.int (b0 : Nat)), some (lD x.1), some (.tup (x.2.map pD)), x5, x6]) (h1 := h ++ [.dk (L.map kvT)]) rfl]
    have ef : fiEn (eVar 4) [some a, some (.ref h.length), some (.int (b0 : Nat)), some (lD x.1), some (.tup (x.2.map pD)), x5, x6] (h ++ [O.dk (L.map kvT)]) = .ok (enD 0 (x.2.map pD)) none (h ++ [.dk (L.map kvT)]) := rfl
    have eo := (for_ok (gt := (tTup [(tName 5), (tName 6)])) (gb := bodyI) ef).trans e1
    show (RT.lp (gFor (fiEn (eVar 4)) (tTup [(tName 5), (tName 6)]) bodyI _ _) _) = _
    rw [eo, lp_nx, e2, List.append_assoc]
    rfl
end Sh.k09
/-! from Q03p -/
set_option linter.all false
set_option maxRecDepth 100000
namespace Sh.k09
open PySem L2 PyProof.Rows Sh
def plF (L : List (Int × Nat × Nat)) (k : Int) : Option (Nat × Nat) := (L.find? fun t => decide (t.1 = k)).map (·.2)
def plD : Option (Nat × Nat) → D
  | none => .non
  | some (b, p) => .tup [.int (b : Nat), .int (p : Nat)]
theorem plF_cons (t : Int × Nat × Nat) (L : List (Int × Nat × Nat)) (k : Int) : plF (t :: L) k = if t.1 = k then some t.2 else plF L k := by
  unfold plF
  rw [List.find?_cons]
  by_cases h : t.1 = k
  · simp [h]
  · simp [h]
theorem plF_app (L M : List (Int × Nat × Nat)) (k : Int) : plF (L ++ M) k = match plF L k with
    | some x => some x
    | none => plF M k := by
  induction L with
  | nil => rfl
  | cons t L ih =>
    rw [List.cons_append, plF_cons, plF_cons, ih]
    by_cases h : t.1 = k <;> simp [h]
theorem valD_pl : ∀ (L : List (Int × Nat × Nat)) (k : Int), (valD (L.map kvT) (.inl k)).getD .non = plD (plF L k)
  | [], k => rfl
  | t :: L, k => by
    have ih := valD_pl L k
    rw [plF_cons]
    unfold valD at ih ⊢
    rw [List.map_cons, List.find?_cons]
    by_cases h : t.1 = k
    · have : decide ((kvT t).1 = Sum.inl k) = true := by simp [kvT, h]
      rw [this, if_pos h]
      rfl
    · have : decide ((kvT t).1 = Sum.inl k) = false := by simp [kvT, h]
      rw [this, if_neg h]
      exact ih
section
variable {S : Sd} {pages : Nat} {h : Hm} {p : Nat}
end
end Sh.k09
/-! from Q03q -/
set_option linter.all false
set_option maxRecDepth 100000
namespace Sh.k09
open PySem L2 PyProof.Rows Sh
abbrev bodyK : FS := (gIf (eBin dEq (eBin dIx (eVar 3) (eVar 4)) (eVar 1)) (gRet (eTup [(eVar 2), (eVar 4)])) gNext)
theorem lp_inner (h : Hm) (a : D) (k : Int) (b : Nat) (all : List Pg) : ∀ (ps pre : List Pg) (x4 : Option D), all = pre ++ ps →
    (∃ bp, plF (plP b pre.length ps) k = some bp ∧ loopG none (tName 4) bodyK ((List.range' pre.length ps.length).map fun i => D.int (i : Nat)) [some a, some (.int k), some (.int (b : Nat)), some (.tup (all.map pD)), x4] h = .rt (plD (some bp)) h) ∨
    (plF (plP b pre.length ps) k = none ∧ ∃ x4', loopG none (tName 4) bodyK ((List.range' pre.length ps.length).map fun i => D.int (i : Nat)) [some a, some (.int k), some (.int (b : Nat)), some (.tup (all.map pD)), x4] h = .nx [some a, some (.int k), some (.int (b : Nat)), some (.tup (all.map pD)), x4'] h)
  | [], pre, x4, _ => .inr ⟨rfl, x4, by rw [List.length_nil, List.range'_zero, List.map_nil, loop_nil chk_none]⟩
  | q :: ps, pre, x4, ha => by
    have ih := lp_inner h a k b all ps (pre ++ [q]) (some (.int (pre.length : Nat))) (by rw [ha, List.append_assoc]; rfl)
    have el : (pre ++ [q]).length = pre.length + 1 := by simp
    rw [el] at ih
    rw [List.length_cons, List.range'_succ, List.map_cons, loop_cons chk_none (s1 := [some a, some (.int k), some (.int (b : Nat)), some (.tup (all.map pD)), some (.int (pre.length : Nat))]) (h1 := h) rfl]
    have ei : dIx (.tup (all.map pD)) (.int (pre.length : Nat)) h = .ok (pD q) h := ix_tup (k := pre.length) (by rw [ha]; simp)
    cases q with
    | free =>
      have eb : bodyK [some a, some (.int k), some (.int (b : Nat)), some (.tup (all.map pD)), some (.int (pre.length : Nat))] h = .nx [some a, some (.int k), some (.int (b : Nat)), some (.tup (all.map pD)), some (.int (pre.length : Nat))] h := by
        simp only [bodyK, x_if, x_bin, x_var, List.getElem?_cons_zero, List.getElem?_cons_succ, ofO_some, RD.bind_ok, ei, pD, q_si, tst_ok, Bool.false_eq_true, if_false, x_next]
      rw [eb, lp_nx]
      exact ih
    | old =>
      have eb : bodyK [some a, some (.int k), some (.int (b : Nat)), some (.tup (all.map pD)), some (.int (pre.length : Nat))] h = .nx [some a, some (.int k), some (.int (b : Nat)), some (.tup (all.map pD)), some (.int (pre.length : Nat))] h := by
        simp only [bodyK, x_if, x_bin, x_var, List.getElem?_cons_zero, List.getElem?_cons_succ, ofO_some, RD.bind_ok, ei, pD, q_si, tst_ok, Bool.false_eq_true, if_false, x_next]
      rw [eb, lp_nx]
      exact ih
    | key j =>
      by_cases hj : j = k
      · have eb : bodyK [some a, some (.int k), some (.int (b : Nat)), some (.tup (all.map pD)), some (.int (pre.length : Nat))] h = .rt (plD (some (b, pre.length))) h := by
          simp only [bodyK, x_if, x_bin, x_var, List.getElem?_cons_zero, List.getElem?_cons_succ, ofO_some, RD.bind_ok, ei, pD, q_int, hj, decide_true, tst_ok, if_true, x_ret, x_tup, evR_cons, evR_nil, RD.st_ok, plD]
        refine .inl ⟨(b, pre.length), ?_, by rw [eb, lp_rt]⟩
        show plF ((j, b, pre.length) :: plP b (pre.length + 1) ps) k = _
        rw [plF_cons, if_pos hj]
      · have eb : bodyK [some a, some (.int k), some (.int (b : Nat)), some (.tup (all.map pD)), some (.int (pre.length : Nat))] h = .nx [some a, some (.int k), some (.int (b : Nat)), some (.tup (all.map pD)), some (.int (pre.length : Nat))] h := by
          simp only [bodyK, x_if, x_bin, x_var, List.getElem?_cons_zero, List.getElem?_cons_succ, ofO_some, RD.bind_ok, ei, pD, q_int, hj, decide_false, tst_ok, Bool.false_eq_true, if_false, x_next]
        rw [eb, lp_nx]
        have e : plF (plP b pre.length (.key j :: ps)) k = plF (plP b (pre.length + 1) ps) k := by
          show plF ((j, b, pre.length) :: plP b (pre.length + 1) ps) k = _
          rw [plF_cons, if_neg hj]
        rw [e]
        exact ih
abbrev bodyB : FS := (gSeq (gSet 3 (eBin dIx (eBin dIx (eBin dIx (eVar 0) (eC (.int 1))) (eVar 2)) (eC (.int 1)))) (gFor (fiRg [(eArgs bLen [(eVar 3)])]) (tName 4) bodyK))
theorem bodyB_eval {a bs q ps : D} {k i : Int} {x3 x4 : Option D} {h : Hm} (j1 : dIx a (.int 1) h = .ok bs h) (j2 : dIx bs (.int i) h = .ok q h) (j3 : dIx q (.int 1) h = .ok ps h) :
    bodyB [some a, some (.int k), some (.int i), x3, x4] h = gFor (fiRg [(eArgs bLen [(eVar 3)])]) (tName 4) bodyK [some a, some (.int k), some (.int i), some ps, x4] h := by
  simp only [bodyB, x_seq, x_set, x_bin, x_var, x_c, List.getElem?_cons_zero, List.getElem?_cons_succ, ofO_some, RD.bind_ok, j1, j2, j3, RD.st_ok, List.set_cons_succ, List.set_cons_zero, seq_nx]
theorem len3_eval {a c : D} {k n : Int} {ds : List D} {x4 : Option D} {h : Hm} (hn : bLen [.tup ds] h = .ok (.int n) h) : (eArgs bLen [(eVar 3)]) [some a, some (.int k), some c, some (.tup ds), x4] h = .ok (.int n) h := by
  simp only [x_args, evR_cons, evR_nil, x_var, List.getElem?_cons_zero, List.getElem?_cons_succ, ofO_some, RD.bind_ok, hn]
theorem lp_outer (S : Sd) (h : Hm) (k : Int) (h6 : ∀ b ∈ S.blocks, b.2.length ≤ 6) : ∀ (bs pre : List (Lf × List Pg)) (x2 x3 x4 : Option D), S.blocks = pre ++ bs →
    (∃ bp, plF (plB pre.length bs) k = some bp ∧ loopG none (tName 2) bodyB ((List.range' pre.length bs.length).map fun i => D.int (i : Nat)) [some S.enc, some (.int k), x2, x3, x4] h = .rt (plD (some bp)) h) ∨
    (plF (plB pre.length bs) k = none ∧ ∃ x2' x3' x4', loopG none (tName 2) bodyB ((List.range' pre.length bs.length).map fun i => D.int (i : Nat)) [some S.enc, some (.int k), x2, x3, x4] h = .nx [some S.enc, some (.int k), x2', x3', x4'] h)
  | [], pre, x2, x3, x4, _ => .inr ⟨rfl, x2, x3, x4, by rw [List.length_nil, List.range'_zero, List.map_nil, loop_nil chk_none]⟩
  | q :: bs, pre, x2, x3, x4, ha => by
    have hq : q ∈ S.blocks := by rw [ha]; simp
    have el : (pre ++ [q]).length = pre.length + 1 := by simp
    rw [List.length_cons, List.range'_succ, List.map_cons, loop_cons chk_none (s1 := [some S.enc, some (.int k), some (.int (pre.length : Nat)), x3, x4]) (h1 := h) rfl]
    have j1 : dIx S.enc (.int 1) h = .ok (.tup (S.blocks.map bD)) h := ix_tup (k := 1) rfl
    have j2 : dIx (.tup (S.blocks.map bD)) (.int (pre.length : Nat)) h = .ok (bD q) h := ix_tup (k := pre.length) (by rw [ha]; simp)
    have j3 : dIx (bD q) (.int 1) h = .ok (.tup (q.2.map pD)) h := ix_tup (k := 1) rfl
    have ef : fiRg [(eArgs bLen [(eVar 3)])] [some S.enc, some (.int k), some (.int (pre.length : Nat)), some (.tup (q.2.map pD)), x4] h = .ok ((List.range (q.2.length : Int).toNat).map fun i => .int (i : Nat)) none h :=
      fi_rg (len3_eval (by rw [o_len_t, List.length_map])) (Int.natCast_nonneg _) (by have := h6 q hq; omega)
    have eb : bodyB [some S.enc, some (.int k), some (.int (pre.length : Nat)), x3, x4] h = loopG none (tName 4) bodyK ((List.range' 0 q.2.length).map fun i => D.int (i : Nat)) [some S.enc, some (.int k), some (.int (pre.length : Nat)), some (.tup (q.2.map pD)), x4] h := by
      rw [bodyB_eval j1 j2 j3, for_ok ef, Int.toNat_natCast, List.range_eq_range']
    rcases lp_inner h S.enc k pre.length q.2 q.2 [] x4 rfl with ⟨bp, e1, e2⟩ | ⟨e1, x4', e2⟩
    · refine .inl ⟨bp, ?_, ?_⟩
      · rw [plB, plF_app]
        rw [List.length_nil] at e1
        rw [e1]
      · rw [List.length_nil] at e2
        rw [eb, e2, lp_rt]
    · have ih := lp_outer S h k h6 bs (pre ++ [q]) (some (.int (pre.length : Nat))) (some (.tup (q.2.map pD))) x4' (by rw [ha, List.append_assoc]; rfl)
      rw [el] at ih
      rw [List.length_nil] at e1 e2
      rw [eb, e2, lp_nx, plB, plF_app, e1]
      exact ih
end Sh.k09
/-! from Q03r -/
set_option linter.all false
set_option maxRecDepth 100000
namespace Sh.k09
open PySem L2 PyProof.Rows Sh
def oddL (n : Nat) : List D := [.non, .bl true, .bl false, .int (-1), .int 9, .int 10000000000000000000000000, .str "", .str "0", .str "free", .tup [], .tup [.int 0], .ref n, .ref (n + 1), .tup [.str "write", .int 0], .str "ever", .int 100]
theorem odd_list (d : Int) (h : Hm) : (eLst [(eC .non), (eC (.bl true)), (eC (.bl false)), (eNeg (eC (.int 1))), (eC (.int 9)), (eBin dPow (eC (.int 10)) (eC (.int 25))), (eC (.str "")), (eC (.str "0")), (eC (.str "free")), (eTup []), (eTup [(eC (.int 0))]), (eLst []), (eLst [(eC (.int 0))]), (eTup [(eC (.str "write")), (eC (.int 0))]), (eC (.str "ever")), (eC (.int 100))]) [some (.int d), none] h =
    .ok (.ref (h.length + 2)) (h ++ [.lst [], .lst [.int 0], .lst (oddL h.length)]) := by
  have e1 : (h ++ [O.lst []]).length = h.length + 1 := by simp
  have e2 : (h ++ [O.lst []] ++ [O.lst [D.int 0]]).length = h.length + 2 := by simp
  simp only [x_lst, evR_cons, evR_nil, x_c, RD.bind_ok, x_neg, x_bin, o_pow25, x_tup, e1, e2]
  rw [List.append_assoc, List.append_assoc]
  rfl
theorem x_odd (d : Int) (h : Hm) : ∃ x ∈ oddL h.length, m__law_odd [.int d] h = .ok x (h ++ [.lst [], .lst [.int 0], .lst (oddL h.length)]) := by
  have m0 := Int.emod_nonneg d (show (16 : Int) ≠ 0 by decide)
  have m1 := Int.emod_lt_of_pos d (show (0 : Int) < 16 by decide)
  obtain ⟨k, hk⟩ := Int.eq_ofNat_of_zero_le m0
  have hk16 : k < (oddL h.length).length := by show k < 16; omega
  have g : (h ++ [O.lst [], O.lst [D.int 0], O.lst (oddL h.length)])[h.length + 2]? = some (.lst (oddL h.length)) := by simp
  refine ⟨(oddL h.length)[k], List.getElem_mem hk16, ?_⟩
  have e2 := ix_ref (k := k) g (List.getElem?_eq_getElem hk16)
  have hp : (0 : Int) < 16 := by decide
  simp only [m__law_odd, x_run, g__law_odd]
  simp only [List.map_cons, List.map_nil, List.length_cons, List.length_nil, Nat.zero_add, Nat.reduceAdd, Nat.reduceSub, List.reduceReplicate, List.cons_append, List.nil_append, x_seq]
  rw [x_set, odd_list]
  simp only [RD.st_ok, List.set_cons_succ, List.set_cons_zero, seq_nx, x_ret, x_bin, x_args, evR_cons, evR_nil, x_var, x_c, List.getElem?_cons_zero, List.getElem?_cons_succ, ofO_some, RD.bind_ok, o_int, o_mod, hp, if_true]
  rw [hk, e2]
  rfl
theorem x_li (i a b : Int) (h : Hm) : m__law_is_int [.int i, .int a, .int b] h = .ok (.bl (decide (a ≤ i ∧ i ≤ b))) h := by
  simp [m__law_is_int, x_run, g__law_is_int, kit_table]
def BadK (K : Int) (d : D) (h : Hm) : Prop := m_is_key [d, .int K] h = .ok (.bl false) h ∧ m__law_is_int [d, .int 0, .int (K - 1)] h = .ok (.bl false) h
theorem bad_of {K : Int} {d : D} {h : Hm} {b1 b2 : Bool} (t1 : isiB "int" h d = some b1) (t2 : isiB "bool" h d = some b2) (hb : b1 = false ∨ b2 = true) : BadK K d h := by
  constructor
  · have e : m_is_whole [d, .int 0, .int (K - 1)] h = .ok (.bl false) h := by
      rcases hb with rfl | rfl
      · simp [m_is_whole, x_run, g_is_whole, t1]
      · cases b1 <;> simp [m_is_whole, x_run, g_is_whole, t1, t2]
    simp [m_is_key, x_run, g_is_key, e]
  · rcases hb with rfl | rfl
    · simp [m__law_is_int, x_run, g__law_is_int, t1]
    · cases b1 <;> simp [m__law_is_int, x_run, g__law_is_int, t1, t2]
theorem bad_int {K k : Int} {h : Hm} (hk : ¬ (0 ≤ k ∧ k ≤ K - 1)) : BadK K (.int k) h := ⟨by rw [x_ik, decide_eq_false hk], by rw [x_li, decide_eq_false hk]⟩
theorem bad_odd {K : Int} (hK : K ≤ 9) {n : Nat} {h : Hm} (g0 : h[n]? = some (.lst [])) (g1 : h[n + 1]? = some (.lst [.int 0])) {x : D} (hx : x ∈ oddL n) : BadK K x h := by
  simp only [oddL, List.mem_cons, List.not_mem_nil, or_false] at hx
  rcases hx with rfl | rfl | rfl | rfl | rfl | rfl | rfl | rfl | rfl | rfl | rfl | rfl | rfl | rfl | rfl | rfl
  · exact bad_of (b1 := false) (b2 := false) (by simp [kit_table]) (by simp [kit_table]) (.inl rfl)
  · exact bad_of (b1 := true) (b2 := true) (by simp [kit_table]) (by simp [kit_table]) (.inr rfl)
  · exact bad_of (b1 := true) (b2 := true) (by simp [kit_table]) (by simp [kit_table]) (.inr rfl)
  · exact bad_int (by omega)
  · exact bad_int (by omega)
  · exact bad_int (by omega)
  · exact bad_of (b1 := false) (b2 := false) (by simp [kit_table]) (by simp [kit_table]) (.inl rfl)
  · exact bad_of (b1 := false) (b2 := false) (by simp [kit_table]) (by simp [kit_table]) (.inl rfl)
  · exact bad_of (b1 := false) (b2 := false) (by simp [kit_table]) (by simp [kit_table]) (.inl rfl)
  · exact bad_of (b1 := false) (b2 := false) (by simp [kit_table]) (by simp [kit_table]) (.inl rfl)
  · exact bad_of (b1 := false) (b2 := false) (by simp [kit_table]) (by simp [kit_table]) (.inl rfl)
  · exact bad_of (b1 := false) (b2 := false) (by rw [t_lst g0]; simp [kit_table]) (by rw [t_lst g0]; decide +kernel) (.inl rfl)
  · exact bad_of (b1 := false) (b2 := false) (by rw [t_lst g1]; simp [kit_table]) (by rw [t_lst g1]; decide +kernel) (.inl rfl)
  · exact bad_of (b1 := false) (b2 := false) (by simp [kit_table]) (by simp [kit_table]) (.inl rfl)
  · exact bad_of (b1 := false) (b2 := false) (by simp [kit_table]) (by simp [kit_table]) (.inl rfl)
  · exact bad_int (by omega)
end Sh.k09
/-! from Q03s -/
set_option linter.all false
set_option maxRecDepth 100000
namespace Sh.k09
open PySem L2 PyProof.Rows Sh
theorem pure_pages (n : Nat) : ∀ ps : List Pg, pureL n (ps.map pD) = true
  | [] => by simp [pureL]
  | p :: ps => by
    rw [List.map_cons, pureL, pure_pages n ps, Bool.and_true]
    cases p <;> cases n <;> rfl
theorem pure_lD (n : Nat) (l : Lf) : pureD n (lD l) = true := by cases l <;> cases n <;> rfl
theorem pure_dD (n : Nat) (d : Option Int) : pureD n (dueD d) = true := by cases d <;> cases n <;> rfl
theorem pure_int (n : Nat) (i : Int) : pureD n (.int i) = true := by cases n <;> rfl
theorem pure_str (n : Nat) (i : Str) : pureD n (.str i) = true := by cases n <;> rfl
theorem pure_plD (n : Nat) (o : Option (Nat × Nat)) : pureD (n + 1) (plD o) = true := by
  cases o with
  | none => rfl
  | some x => simp [plD, pureD, pureL, pure_int]
theorem pure_bD (n : Nat) (b : Lf × List Pg) (h6 : b.2.length ≤ 6) : pureD (n + 2) (bD b) = true := by
  have : b.2.length < 1000000 := by omega
  simp [bD, pureD, pureL, pure_lD, pure_pages, this]
theorem pure_blocks (n : Nat) : ∀ bs : List (Lf × List Pg), (∀ b ∈ bs, b.2.length ≤ 6) → pureL (n + 2) (bs.map bD) = true
  | [], _ => by simp [pureL]
  | b :: bs, h => by
    rw [List.map_cons, pureL, pure_bD n b (h b (List.mem_cons_self ..)), pure_blocks n bs fun c hc => h c (List.mem_cons_of_mem _ hc)]
    rfl
theorem pure_enc {S : Sd} {pages : Nat} (o : SdOk S pages) (n : Nat) : pureD (n + 4) S.enc = true := by
  have h6 : ∀ b ∈ S.blocks, b.2.length ≤ 6 := fun b hb => by rw [(o.bk b hb).2.1]; exact o.p2
  have hl : S.blocks.length < 1000000 := by have := o.b2; omega
  have e : pureD (n + 3) (.tup (S.blocks.map bD)) = true := by simp [pureD, pure_blocks n S.blocks h6, hl]
  have : pureD (n + 4) S.enc = (pureL (n + 3) [.int S.keys, .tup (S.blocks.map bD), .int S.fails, .int S.cuts, dueD S.due] && decide (5 < 1000000)) := rfl
  rw [this]
  simp [pureL, pure_int, e, pure_dD]
section
variable {S : Sd} {pages : Nat} {h : Hm} {p : Nat}
theorem st_rt_out {X : RD} {s : DS} {k : FS} : ((X.st s fun d h1 => RT.rt d h1).seq k).out = (X.st s fun d h1 => RT.rt d h1).out := by cases X <;> rfl
end
end Sh.k09
/-! from Q03t -/
set_option linter.all false
set_option maxRecDepth 100000
namespace Sh.k09
open PySem L2 PyProof.Rows Sh
def KeyOr (K : Int) (d : D) (h : Hm) : Prop := (∀ t, BadK K d (h ++ t)) ∨ ∃ k, d = .int k ∧ 0 ≤ k ∧ k < K
section
variable {S : Sd} {pages : Nat} {h : Hm} {p : Nat}
end
end Sh.k09

set_option linter.all false
set_option maxRecDepth 100000
namespace Sh.k09
open PySem L2 PyProof.Rows Sh
def rm (b : Lf × List Pg) : Bool := b.2.any isFree
theorem free_in (ps : List Pg) (h : Hm) : dIn (.str "free") (.tup (ps.map pD)) h = .ok (.bl (ps.any isFree)) h := by
  have hf : flatD (.str "free") = true ∧ (ps.map pD).all flatD = true := ⟨rfl, pD_flat ps⟩
  have e : inB h (.str "free") (.tup (ps.map pD)) = some (ps.any isFree) := by
    simp only [inB]
    rw [if_pos hf, List.any_map]
    congr 2
    funext p
    exact eqF_free p
  simp only [dIn, e]
def noKey : Pg → Bool
  | .key _ => false
  | _ => true
def er (b : Lf × List Pg) : Bool := (match b.1 with
  | .bad => false
  | .num n => !decide (n = 0)
  | .ever => true) && (b.2.any fun p => !isFree p) && b.2.all noKey
theorem held_tru (ps : List Pg) : (((ps.map pD).filter fun x => match x with | .int _ => true | _ => false).map id).isEmpty = ps.all noKey := by
  induction ps with
  | nil => rfl
  | cons p ps ih =>
    rw [List.map_cons, List.all_cons]
    cases p with
    | free => exact ih
    | old => exact ih
    | key k => rfl
theorem cnt_all (ps : List Pg) : (ps.countP isFree = ps.length) ↔ (ps.any fun p => !isFree p) = false := by
  rw [List.countP_eq_length]
  simp
def lfc (l : Lf) (v : Bool) : Bool := match l with
  | .bad => true
  | .num n => decide (n = 0) || v
  | .ever => v
theorem cond_ok (l : Lf) {s : DS} {h : Hm} {g : FE} {v : Bool} (hs : s[1]? = some (some (lD l))) (cq : g s h = .ok (.bl v) h) : (eOr (eBin dIs (eVar 1) (eC .non)) (eOr (eBin dEq (eVar 1) (eC (.int 0))) g)) s h = .ok (.bl (lfc l v)) h := by
  simp only [x_or, x_bin, x_var, x_c, hs, ofO_some, RD.bind_ok, o_is_n, tb_ok]
  cases l with
  | bad => simp [lD, lfc]
  | ever => simp [lD, lfc, cq]
  | num n =>
    by_cases hn : n = 0 <;> simp [lD, lfc, cq, hn]
end Sh.k09

set_option linter.all false
set_option maxRecDepth 100000
namespace Sh.k09
open PySem L2 PyProof.Rows Sh
def pP : Pg → PyData
  | .free => .str "free" | .old => .str "old" | .key k => .int k
theorem mapO_pages (n : Nat) (h : Hm) : ∀ ps : List Pg, mapO (toPy n h) (ps.map pD) = some (ps.map pP)
  | [] => rfl
  | p :: ps => by
    have e : toPy n h (pD p) = some (pP p) := by cases p <;> cases n <;> rfl
    simp only [List.map_cons, mapO, e, mapO_pages n h ps]
theorem toPy_pages {n : Nat} {h : Hm} {ps : List Pg} (e : h[n]? = some (.lst (ps.map pD))) : toPy 20 h (.ref n) = some (.list (ps.map pP)) := by
  show (match h[n]? with
    | some (.lst ds) => (mapO (toPy 19 h) ds).map PyData.list
    | some (.scr ds) => (mapO (toPy 19 h) ds).map PyData.list
    | _ => none) = _
  rw [e]
  dsimp only
  rw [mapO_pages]
  rfl
theorem lay_pages : ∀ ps : List Pg, PyData.canLayAll0 (ps.map pP) = true
  | [] => rfl
  | p :: ps => by
    rw [List.map_cons, PyData.canLayAll0, lay_pages ps, Bool.and_true]
    cases p with
    | free => decide +kernel
    | old => decide +kernel
    | key k => rfl
theorem dep_pages : ∀ ps : List Pg, PyData.depthAll (ps.map pP) = 0
  | [] => rfl
  | p :: ps => by
    rw [List.map_cons, PyData.depthAll, dep_pages ps]
    cases p <;> rfl
theorem shaped_pages (ps : List Pg) : SeqAt.shaped (.list (ps.map pP)) = true := by
  have e1 : PyData.canLay0 (.list (ps.map pP)) = true := lay_pages ps
  have e2 : PyData.depth (.list (ps.map pP)) = 1 := by
    show PyData.depthAll (ps.map pP) + 1 = 1
    rw [dep_pages]
  simp only [SeqAt.shaped, e1, e2]
  decide
theorem eqv_old : ∀ ps : List Pg, (∀ p ∈ ps, p ≠ .free) → PyData.eqvAll (ps.map pP) ((List.replicate ps.length Pg.old).map pP) = ps.all noKey
  | [], _ => rfl
  | p :: ps, h => by
    rw [List.length_cons, List.replicate_succ, List.map_cons, List.map_cons, PyData.eqvAll, eqv_old ps fun q hq => h q (List.mem_cons_of_mem _ hq), List.all_cons]
    congr 1
    cases p with
    | free => exact absurd rfl (h .free (List.mem_cons_self ..))
    | old => decide +kernel
    | key k => rfl
theorem eq_old {a b : Nat} {h : Hm} {ps : List Pg} (ea : h[a]? = some (.lst (ps.map pD))) (eb : h[b]? = some (.lst (List.replicate ps.length (.str "old")))) (hf : ∀ p ∈ ps, p ≠ .free) : dEq (.ref a) (.ref b) h = .ok (.bl (ps.all noKey)) h := by
  have eb' : h[b]? = some (.lst ((List.replicate ps.length Pg.old).map pD)) := by rw [eb, List.map_replicate]; rfl
  have e : eqB h (.ref a) (.ref b) = some (ps.all noKey) := by
    have h1 := toPy_pages ea
    have h2 := toPy_pages eb'
    have h3 : SeqAt.shaped (.list (ps.map pP)) = true ∧ SeqAt.shaped (.list ((List.replicate ps.length Pg.old).map pP)) = true := ⟨shaped_pages _, shaped_pages _⟩
    unfold eqB
    simp only [eqSc, h1, h2]
    rw [if_pos h3]
    show some (PyData.eqvAll _ _) = _
    rw [eqv_old ps hf]
  simp only [dEq, e]
end Sh.k09
namespace Sh.k09
open PySem L2 PyProof.Rows Sh
def usedP (ps : List Pg) : List Pg := ps.filter fun p => !isFree p
theorem used_ok (a l : D) (ps : List Pg) (h : Hm) (hl : ps.length < 1000) : ∃ t2, eLc (fiSeq (eVar 2)) (tName 4) (eBin dNe (eVar 4) (eC (.str "free"))) (eVar 4) [4] [some a, some l, some (.tup (ps.map pD)), none, none] h = .ok (.ref h.length) (h ++ .lst ((usedP ps).map pD) :: t2) := by
  obtain ⟨t2, r⟩ := elc_ok (fi := fiSeq (eVar 2)) (gt := tName 4) (ft := eBin dNe (eVar 4) (eC (.str "free"))) (fe := eVar 4) (own := [4]) (s := [some a, some l, some (.tup (ps.map pD)), none, none]) (h := h) (ck := none) (xs := ps.map pD) (val := id) (tt := fun x => !eqF x (.str "free"))
    (fi_tup rfl) (fun _ => rfl) (fun x hx u => by
      obtain ⟨p, hp, rfl⟩ := List.mem_map.mp hx
      refine ⟨[some a, some l, some (.tup (ps.map pD)), none, some (pD p)], [], rfl, ?_, fun _ => by rw [List.append_nil]; rfl⟩
      rw [eqF_free]
      cases p with
      | free => simp [pD, isFree]
      | old =>
        have : decide (Str.ofString "old" = Str.ofString "free") = false := by decide
        simp [pD, isFree]
        decide
      | key k => simp [pD, isFree]) (by simp; omega)
  refine ⟨t2, ?_⟩
  rw [r, List.map_id, List.filter_map]
  congr 5
  unfold usedP
  congr 1
  funext p
  simp only [Function.comp_apply, eqF_free]
theorem used_len (ps : List Pg) : decide (0 < (usedP ps).length) = ps.any fun p => !isFree p := by
  cases q : ps.any fun p => !isFree p with
  | true =>
    obtain ⟨p, hp, e⟩ := List.any_eq_true.mp q
    have : p ∈ usedP ps := List.mem_filter.mpr ⟨hp, e⟩
    exact decide_eq_true (List.length_pos_of_mem this)
  | false =>
    have : usedP ps = [] := by
      rw [usedP, List.filter_eq_nil_iff]
      intro p hp z
      have := (List.any_eq_false.mp q) p hp
      exact this z
    rw [this]
    rfl
theorem used_all : ∀ ps : List Pg, (usedP ps).all noKey = ps.all noKey
  | [] => rfl
  | p :: ps => by
    have ih := used_all ps
    cases p with
    | free => simpa [usedP, isFree, noKey] using ih
    | old => simpa [usedP, isFree, noKey] using ih
    | key k => simp [usedP, isFree, noKey]
theorem cond2_ok (l : Lf) {s : DS} {h : Hm} (hs : s[1]? = some (some (lD l))) : (eOr (eBin dIs (eVar 1) (eC .non)) (eBin dEq (eVar 1) (eC (.int 0)))) s h = .ok (.bl (lfc l false)) h := by
  simp only [x_or, x_bin, x_var, x_c, hs, ofO_some, RD.bind_ok, o_is_n, tb_ok]
  cases l with
  | bad => simp [lD, lfc]
  | ever => simp [lD, lfc]
  | num n => by_cases hn : n = 0 <;> simp [lD, lfc, hn]
end Sh.k09

set_option linter.all false
set_option maxRecDepth 100000
namespace Sh.k09
open PySem L2 PyProof.Rows Sh
def roomsL : Nat → List (Lf × List Pg) → List Nat
  | _, [] => []
  | k, b :: bs => if rm b then k :: roomsL (k + 1) bs else roomsL (k + 1) bs
theorem any_free {b : Lf × List Pg} {pages w : Nat} (hl : b.2.length = pages) (hw : w ≤ pages) (hf : ∀ i p, b.2[i]? = some p → (w ≤ i ↔ p = .free)) : rm b = decide (w < pages) := by
  by_cases h : w < pages
  · have hi : w < b.2.length := by omega
    have := (hf w _ (List.getElem?_eq_getElem hi)).mp (Nat.le_refl _)
    have hm : b.2[w] ∈ b.2 := List.getElem_mem hi
    rw [this] at hm
    rw [decide_eq_true h]
    exact List.any_eq_true.mpr ⟨_, hm, rfl⟩
  · rw [decide_eq_false h]
    refine List.any_eq_false.mpr fun p hp z => ?_
    obtain ⟨i, hi⟩ := List.mem_iff_getElem?.mp hp
    have hlt := (List.getElem?_eq_some_iff.mp hi).1
    cases p with
    | free =>
      have := (hf i .free hi).mpr rfl
      omega
    | old => cases z
    | key k => cases z
theorem room_cond {b : Lf × List Pg} {pages : Nat} (o : BkOk pages b) (p1 : 1 ≤ pages) : ∃ q, b.2[pages - 1]? = some q ∧ rm b = ((!decide (lD b.1 = .non)) && isFree q) := by
  obtain ⟨_, hl, w, hw, hbad, hf⟩ := o
  have hi : pages - 1 < b.2.length := by omega
  refine ⟨b.2[pages - 1], List.getElem?_eq_getElem hi, ?_⟩
  have h1 := hf (pages - 1) _ (List.getElem?_eq_getElem hi)
  rw [any_free hl hw hf]
  by_cases hb : b.1 = .bad
  · have := hbad hb
    have e : ¬ w < pages := by omega
    rw [decide_eq_false e, decide_eq_true ((lD_non b.1).mpr hb)]
    rfl
  · rw [decide_eq_false fun z => hb ((lD_non b.1).mp z)]
    generalize b.2[pages - 1] = q at h1
    by_cases e : w < pages
    · have := h1.mp (by omega)
      rw [decide_eq_true e, this]
      rfl
    · have hn : ¬ q = .free := fun z => by
        have := h1.mpr z
        omega
      rw [decide_eq_false e]
      cases q with
      | free => exact absurd rfl hn
      | old => rfl
      | key k => rfl
abbrev bodyRm : FS := (gSeq (gAsg (eBin dIx (eBin dIx (eVar 0) (eC (.int 1))) (eVar 2)) (tTup [(tName 3), (tName 4)]))
    (gIf (eAnd (eBin dIsNot (eVar 3) (eC .non)) (eBin dEq (eBin dIx (eVar 4) (eBin dSub (eArgs bLen [(eVar 4)]) (eC (.int 1)))) (eC (.str "free")))) (gDrop (eLm lAppend (eVar 1) [(eVar 2)])) gNext))
theorem eq_free (q : Pg) (h : Hm) : dEq (pD q) (.str "free") h = .ok (.bl (isFree q)) h := by
  cases q with
  | free => simp [pD, isFree]
  | old =>
    simp [pD, isFree]
    decide
  | key k => simp [pD, isFree]
theorem rm_asg {a bs l ps rf : D} {i : Int} {x3 x4 : Option D} {h : Hm} (j1 : dIx a (.int 1) h = .ok bs h) (j2 : dIx bs (.int i) h = .ok (.tup [l, ps]) h) : gAsg (eBin dIx (eBin dIx (eVar 0) (eC (.int 1))) (eVar 2)) (tTup [tName 3, tName 4]) [some a, some rf, some (.int i), x3, x4] h = .nx [some a, some rf, some (.int i), some l, some ps] h := by
  have e : (eBin dIx (eBin dIx (eVar 0) (eC (.int 1))) (eVar 2)) [some a, some rf, some (.int i), x3, x4] h = .ok (.tup [l, ps]) h := by
    simp only [x_bin, x_var, x_c, List.getElem?_cons_zero, List.getElem?_cons_succ, ofO_some, RD.bind_ok, j1, j2]
  unfold gAsg
  rw [e]
  rfl
theorem rm_test {a l q rf : D} {i n : Int} {ds : List D} {h : Hm} {b2 : Bool} (hl : bLen [.tup ds] h = .ok (.int n) h) (hi : dIx (.tup ds) (.int (n - 1)) h = .ok q h) (hq : dEq q (.str "free") h = .ok (.bl b2) h) :
    (eAnd (eBin dIsNot (eVar 3) (eC .non)) (eBin dEq (eBin dIx (eVar 4) (eBin dSub (eArgs bLen [(eVar 4)]) (eC (.int 1)))) (eC (.str "free")))) [some a, some rf, some (.int i), some l, some (.tup ds)] h = .ok (.bl ((!decide (l = .non)) && b2)) h := by
  have e1 : (eBin dIsNot (eVar 3) (eC .non)) [some a, some rf, some (.int i), some l, some (.tup ds)] h = .ok (.bl (!decide (l = .non))) h := by
    simp only [x_bin, x_var, x_c, List.getElem?_cons_zero, List.getElem?_cons_succ, ofO_some, RD.bind_ok, o_isN_n]
  have e2 : (eBin dEq (eBin dIx (eVar 4) (eBin dSub (eArgs bLen [(eVar 4)]) (eC (.int 1)))) (eC (.str "free"))) [some a, some rf, some (.int i), some l, some (.tup ds)] h = .ok (.bl b2) h := by
    simp only [x_bin, x_args, evR_cons, evR_nil, x_var, x_c, List.getElem?_cons_zero, List.getElem?_cons_succ, ofO_some, RD.bind_ok, hl, o_sub, hi, hq]
  rw [x_and, e1, tb_ok, e2]
  cases (!decide (l = .non)) <;> cases b2 <;> rfl
theorem rooms_loop2 {S : Sd} {pages : Nat} (o : SdOk S pages) (h : Hm) : ∀ (bs pre : List (Lf × List Pg)) (acc : List Nat) (x2 x3 x4 : Option D), S.blocks = pre ++ bs → acc.length ≤ pre.length →
    ∃ x2' x3' x4', loopG none (tName 2) bodyRm ((List.range' pre.length bs.length).map fun i => D.int (i : Nat)) [some S.enc, some (.ref h.length), x2, x3, x4] (h ++ [.lst (acc.map fun i => D.int (i : Nat))]) = .nx [some S.enc, some (.ref h.length), x2', x3', x4'] (h ++ [.lst ((acc ++ roomsL pre.length bs).map fun i => D.int (i : Nat))])
  | [], pre, acc, x2, x3, x4, _, _ => ⟨x2, x3, x4, by rw [List.length_nil, List.range'_zero, List.map_nil, loop_nil chk_none, roomsL, List.append_nil]⟩
  | b :: bs, pre, acc, x2, x3, x4, ha, hl => by
    have hb : b ∈ S.blocks := by rw [ha]; simp
    have el : (pre ++ [b]).length = pre.length + 1 := by simp
    have hlen : acc.length < 1000 := by
      have := congrArg List.length ha
      have h9 := o.b2
      simp at this
      omega
    have ob := o.bk b hb
    obtain ⟨q, hq1, hq2⟩ := room_cond ob o.p1
    obtain ⟨H, eH⟩ : ∃ H : Hm, H = h ++ [.lst (acc.map fun i => D.int (i : Nat))] := ⟨_, rfl⟩
    have j1 : dIx S.enc (.int 1) H = .ok (.tup (S.blocks.map bD)) H := ix_tup (k := 1) rfl
    have j2 : dIx (.tup (S.blocks.map bD)) (.int (pre.length : Nat)) H = .ok (bD b) H := ix_tup (k := pre.length) (by rw [ha]; simp)
    have hp : ((pages : Int) - 1) = ((pages - 1 : Nat) : Int) := by have := o.p1; omega
    have lenb : bLen [.tup (b.2.map pD)] H = .ok (.int pages) H := by rw [o_len_t, List.length_map, ob.2.1]
    have ixq : dIx (.tup (b.2.map pD)) (.int ((pages : Int) - 1)) H = .ok (pD q) H := by
      rw [hp]
      exact ix_tup (k := pages - 1) (by rw [List.getElem?_map, hq1]; rfl)
    have tst := rm_test (a := S.enc) (l := lD b.1) (rf := .ref h.length) (i := (pre.length : Nat)) lenb ixq (eq_free q H)
    rw [← hq2] at tst
    have asg := rm_asg (rf := .ref h.length) (x3 := x3) (x4 := x4) (l := lD b.1) (ps := .tup (b.2.map pD)) j1 j2
    rw [List.length_cons, List.range'_succ, List.map_cons, loop_cons chk_none (s1 := [some S.enc, some (.ref h.length), some (.int (pre.length : Nat)), x3, x4]) (h1 := h ++ [.lst (acc.map fun i => D.int (i : Nat))]) rfl, ← eH]
    by_cases hr : rm b = true
    · obtain ⟨y2, y3, y4, e⟩ := rooms_loop2 o h bs (pre ++ [b]) (acc ++ [pre.length]) (some (.int (pre.length : Nat))) (some (lD b.1)) (some (.tup (b.2.map pD))) (by rw [ha, List.append_assoc]; rfl) (by simp; omega)
      rw [el] at e
      refine ⟨y2, y3, y4, ?_⟩
      have eb : bodyRm [some S.enc, some (.ref h.length), some (.int (pre.length : Nat)), x3, x4] H = .nx [some S.enc, some (.ref h.length), some (.int (pre.length : Nat)), some (lD b.1), some (.tup (b.2.map pD))] (h ++ [.lst ((acc ++ [pre.length]).map fun i => D.int (i : Nat))]) := by
        unfold bodyRm
        rw [x_seq, asg, seq_nx, x_if, tst, tst_ok, if_pos hr, eH, x_drop, app_last (d := .int (pre.length : Nat)) rfl rfl (by simp; omega), List.map_append]
        rfl
      rw [eb, lp_nx, e, roomsL, if_pos hr, List.append_assoc]
      rfl
    · obtain ⟨y2, y3, y4, e⟩ := rooms_loop2 o h bs (pre ++ [b]) acc (some (.int (pre.length : Nat))) (some (lD b.1)) (some (.tup (b.2.map pD))) (by rw [ha, List.append_assoc]; rfl) (by simp; omega)
      rw [el] at e
      refine ⟨y2, y3, y4, ?_⟩
      have eb : bodyRm [some S.enc, some (.ref h.length), some (.int (pre.length : Nat)), x3, x4] H = .nx [some S.enc, some (.ref h.length), some (.int (pre.length : Nat)), some (lD b.1), some (.tup (b.2.map pD))] H := by
        unfold bodyRm
        rw [x_seq, asg, seq_nx, x_if, tst, tst_ok, if_neg hr, x_next]
      rw [eb, lp_nx, eH, e, roomsL, if_neg hr]
end Sh.k09

set_option linter.all false
set_option maxRecDepth 100000
namespace Sh.k09
open PySem L2 PyProof.Rows Sh
def cpD (key : Int) (b : Nat) : D := .tup [.str "copy", .int key, .int (b : Nat)]
def cpL (key : Int) (pl : Option (Nat × Nat)) (R : List Nat) : List D := match pl with
  | none => []
  | some (home, _) => (R.filter fun b => !decide (home = b)).map (cpD key)
def cpC (pl : Option (Nat × Nat)) (b : Nat) : Bool := match pl with
  | none => false
  | some x => !decide (x.1 = b)
abbrev bodyC : FS := (gIf (eAnd (eBin dIsNot (eVar 4) (eC .non)) (eBin dNe (eBin dIx (eVar 4) (eC (.int 0))) (eVar 5))) (gDrop (eLm lAppend (eVar 2) [(eTup [(eC (.str "copy")), (eVar 3), (eVar 5)])])) gNext)
theorem cp_test {a r1 r2 : D} {key : Int} {b : Nat} (pl : Option (Nat × Nat)) (h : Hm) : (eAnd (eBin dIsNot (eVar 4) (eC .non)) (eBin dNe (eBin dIx (eVar 4) (eC (.int 0))) (eVar 5))) [some a, some r1, some r2, some (.int key), some (plD pl), some (.int (b : Nat))] h = .ok (.bl (cpC pl b)) h := by
  have e1 : (eBin dIsNot (eVar 4) (eC .non)) [some a, some r1, some r2, some (.int key), some (plD pl), some (.int (b : Nat))] h = .ok (.bl (!decide (plD pl = .non))) h := by
    simp only [x_bin, x_var, x_c, List.getElem?_cons_zero, List.getElem?_cons_succ, ofO_some, RD.bind_ok, o_isN_n]
  rw [x_and, e1, tb_ok]
  cases pl with
  | none => rfl
  | some x =>
    obtain ⟨hm, q⟩ := x
    have e2 : (eBin dNe (eBin dIx (eVar 4) (eC (.int 0))) (eVar 5)) [some a, some r1, some r2, some (.int key), some (plD (some (hm, q))), some (.int (b : Nat))] h = .ok (.bl (!decide ((hm : Int) = (b : Int)))) h := by
      have i0 : dIx (plD (some (hm, q))) (.int 0) h = .ok (.int (hm : Nat)) h := ix_tup (k := 0) rfl
      simp only [x_bin, x_var, x_c, List.getElem?_cons_zero, List.getElem?_cons_succ, ofO_some, RD.bind_ok, i0, nq_int]
    have : decide (plD (some (hm, q)) = .non) = false := by simp [plD]
    rw [this, if_pos (by rfl), e2]
    congr 3
    exact decide_eq_decide.mpr Int.ofNat_inj
theorem cp_app {a r1 : D} {n2 : Nat} {key : Int} {b : Nat} {pl : D} {H : Hm} {acc : List D} (h2 : n2 < H.length) (hl : acc.length < 1000000) :
    (gDrop (eLm lAppend (eVar 2) [(eTup [(eC (.str "copy")), (eVar 3), (eVar 5)])])) [some a, some r1, some (.ref n2), some (.int key), some pl, some (.int (b : Nat))] (H.set n2 (.lst acc)) =
      .nx [some a, some r1, some (.ref n2), some (.int key), some pl, some (.int (b : Nat))] (H.set n2 (.lst (acc ++ [cpD key b]))) := by
  have g : (H.set n2 (.lst acc))[n2]? = some (.lst acc) := List.getElem?_set_self h2
  simp only [x_drop, x_lm, x_var, List.getElem?_cons_zero, List.getElem?_cons_succ, ofO_some, RD.bind_ok, lmB_ref (gl := lAppend) g, evR_cons, evR_nil, x_tup, x_c, lmC_ok (gl := lAppend) g, app_ok hl, RD.st_ok, List.set_set]
  rfl
theorem cp_inner {a : D} {n1 n2 : Nat} {key : Int} (pl : Option (Nat × Nat)) {H : Hm} {all : List D} (h1 : H[n1]? = some (.lst all)) (h2 : n2 < H.length) (hne : n1 ≠ n2) : ∀ (R : List Nat) (acc : List D) (x5 : Option D), acc.length + R.length < 1000000 →
    ∃ x5', loopG (some (n1, all)) (tName 5) bodyC (R.map fun i => D.int (i : Nat)) [some a, some (.ref n1), some (.ref n2), some (.int key), some (plD pl), x5] (H.set n2 (.lst acc)) = .nx [some a, some (.ref n1), some (.ref n2), some (.int key), some (plD pl), x5'] (H.set n2 (.lst (acc ++ cpL key pl R)))
  | [], acc, x5, _ => ⟨x5, by
      have g : (H.set n2 (.lst acc))[n1]? = some (.lst all) := by rw [List.getElem?_set_ne (Ne.symm hne)]; exact h1
      rw [List.map_nil, loop_nil (chk_ref g)]
      cases pl with
      | none => simp [cpL]
      | some x => simp [cpL]⟩
  | b :: R, acc, x5, hl => by
    simp only [List.length_cons] at hl
    have g : (H.set n2 (.lst acc))[n1]? = some (.lst all) := by rw [List.getElem?_set_ne (Ne.symm hne)]; exact h1
    rw [List.map_cons, loop_cons (chk_ref g) (s1 := [some a, some (.ref n1), some (.ref n2), some (.int key), some (plD pl), some (.int (b : Nat))]) (h1 := H.set n2 (.lst acc)) rfl]
    have tst := cp_test (a := a) (r1 := .ref n1) (r2 := .ref n2) (key := key) (b := b) pl (H.set n2 (.lst acc))
    have keep : ∀ (hc : cpC pl b = false), cpL key pl (b :: R) = cpL key pl R := by
      intro hc
      cases pl with
      | none => rfl
      | some x =>
        show ((b :: R).filter _).map _ = _
        rw [List.filter_cons_of_neg (by have hc' : (!decide (x.1 = b)) = false := hc; rw [hc']; exact Bool.false_ne_true)]
        rfl
    have more : ∀ (hc : cpC pl b = true), cpL key pl (b :: R) = cpD key b :: cpL key pl R := by
      intro hc
      cases pl with
      | none => cases hc
      | some x =>
        show ((b :: R).filter _).map _ = _
        rw [List.filter_cons_of_pos (p := fun b => !decide (x.1 = b)) (show (!decide (x.1 = b)) = true from hc)]
        rfl
    generalize cpC pl b = c at tst keep more
    cases c with
    | false =>
      obtain ⟨x5', e⟩ := cp_inner pl h1 h2 hne R acc (some (.int (b : Nat))) (by omega)
      refine ⟨x5', ?_⟩
      have eb : bodyC [some a, some (.ref n1), some (.ref n2), some (.int key), some (plD pl), some (.int (b : Nat))] (H.set n2 (.lst acc)) = .nx [some a, some (.ref n1), some (.ref n2), some (.int key), some (plD pl), some (.int (b : Nat))] (H.set n2 (.lst acc)) := by
        unfold bodyC
        rw [x_if, tst, tst_ok, if_neg Bool.false_ne_true, x_next]
      rw [eb, lp_nx, e, keep rfl]
    | true =>
      obtain ⟨x5', e⟩ := cp_inner pl h1 h2 hne R (acc ++ [cpD key b]) (some (.int (b : Nat))) (by simp; omega)
      refine ⟨x5', ?_⟩
      have eb : bodyC [some a, some (.ref n1), some (.ref n2), some (.int key), some (plD pl), some (.int (b : Nat))] (H.set n2 (.lst acc)) = .nx [some a, some (.ref n1), some (.ref n2), some (.int key), some (plD pl), some (.int (b : Nat))] (H.set n2 (.lst (acc ++ [cpD key b]))) := by
        unfold bodyC
        rw [x_if, tst, tst_ok, if_pos rfl, cp_app h2 (by omega)]
      rw [eb, lp_nx, e, more rfl, List.append_assoc]
      rfl
end Sh.k09

set_option linter.all false
set_option maxRecDepth 100000
namespace Sh.k09
open PySem L2 PyProof.Rows Sh
def cpsL (S : Sd) : Nat → Nat → List D
  | 0, _ => []
  | j + 1, k => cpL (k : Nat) (plF (plB 0 S.blocks) (k : Nat)) (roomsL 0 S.blocks) ++ cpsL S j (k + 1)
theorem roomsL_len : ∀ (k : Nat) (bs : List (Lf × List Pg)), (roomsL k bs).length ≤ bs.length
  | _, [] => Nat.le_refl _
  | k, b :: bs => by
    have := roomsL_len (k + 1) bs
    unfold roomsL
    split <;> simp <;> omega
theorem cpL_len (key : Int) (pl : Option (Nat × Nat)) (R : List Nat) : (cpL key pl R).length ≤ R.length := by
  cases pl with
  | none => exact Nat.zero_le _
  | some x =>
    show ((R.filter _).map _).length ≤ _
    rw [List.length_map]
    exact List.length_filter_le ..
/-! ### erasures -/
def erD (b : Nat) : D := .tup [.str "erase", .int (b : Nat)]
def ersL : Nat → List (Lf × List Pg) → List D
  | _, [] => []
  | k, b :: bs => if er b then erD k :: ersL (k + 1) bs else ersL (k + 1) bs
end Sh.k09

set_option linter.all false
set_option maxRecDepth 100000
namespace Sh.k09
open PySem L2 PyProof.Rows Sh
def wrD (b : Nat) : D := .tup [.str "write", .int (b : Nat)]
def actsD (S : Sd) : List D := match S.due with
  | none => []
  | some _ => (roomsL 0 S.blocks).map wrD ++ cpsL S S.keys.toNat 0 ++ ersL 0 S.blocks
structure NewL (r : RD) (h : Hm) (xs : List D) : Prop where
  ex : ∃ (n : Nat) (h' : Hm), r = .ok (.ref n) h' ∧ h'[n]? = some (.lst xs) ∧ h.length ≤ n ∧ h.length ≤ h'.length ∧ ∀ m, m < h.length → h'[m]? = h[m]?
theorem writes_ok {a : D} {n1 : Nat} {R : List Nat} {h : Hm} {s4 s3 s2 : Option D} (h1 : h[n1]? = some (.lst (R.map fun i => D.int (i : Nat)))) (hl : R.length < 1000) : ∃ t2, eLc (fiSeq (eVar 1)) (tName 5) (eC (.bl true)) (eTup [(eC (.str "write")), (eVar 5)]) [5] [some a, some (.ref n1), s2, s3, s4, none] h = .ok (.ref h.length) (h ++ .lst (R.map wrD) :: t2) := by
  obtain ⟨t2, r⟩ := elc_ok (fi := fiSeq (eVar 1)) (gt := tName 5) (ft := eC (.bl true)) (fe := (eTup [(eC (.str "write")), (eVar 5)])) (own := [5]) (s := [some a, some (.ref n1), s2, s3, s4, none]) (h := h) (ck := some (n1, R.map fun i => D.int (i : Nat))) (xs := R.map fun i => D.int (i : Nat)) (val := fun x => .tup [.str "write", x]) (tt := fun _ => true)
    (fi_ref rfl h1) (chk_old h1) (fun x hx u => ⟨[some a, some (.ref n1), s2, s3, s4, some x], [], rfl, rfl, fun _ => by rw [List.append_nil]; rfl⟩) (by simp; omega)
  refine ⟨t2, ?_⟩
  rw [r, List.filter_eq_self.mpr (fun _ _ => rfl), List.map_map]
  rfl
theorem cpsL_len (S : Sd) (h9 : (roomsL 0 S.blocks).length ≤ 9) : ∀ j k, (cpsL S j k).length ≤ j * 9
  | 0, _ => Nat.zero_le _
  | j + 1, k => by
    have h1 := cpL_len (k : Nat) (plF (plB 0 S.blocks) (k : Nat)) (roomsL 0 S.blocks)
    have h2 := cpsL_len S h9 j (k + 1)
    rw [cpsL, List.length_append, Nat.succ_mul]
    omega
end Sh.k09

set_option linter.all false
set_option maxRecDepth 100000
namespace Sh.k09
open PySem L2 PyProof.Rows Sh
open PySem.W (EachIs AllAlike Sortable dataLe)
/-! ### sorted(places.items()) -/
abbrev T3 := Int × Nat × Nat
def pyT (t : T3) : PyData := .tuple [.int t.1, .tuple [.int (t.2.1 : Nat), .int (t.2.2 : Nat)]]
def kdT (t : T3) : KDP := (kvT t, pyT t)
theorem prep_ok (h : Hm) : ∀ L : List T3, prepK h (L.map kvT) = some (L.map kdT)
  | [] => rfl
  | t :: L => by
    have e : toPy 20 h (kvT t).2 = some (.tuple [.int (t.2.1 : Nat), .int (t.2.2 : Nat)]) := rfl
    simp only [List.map_cons, prepK, e, prep_ok h L]
    rfl
theorem le_keys {a b : T3} (hne : a.1 ≠ b.1) : dataLe false pyT a b = decide (a.1 < b.1) := by
  have e1 : PySem.W.keyToks (pyT b) = .inl 1 :: .inl b.1 :: PySem.W.keyToksAll [.tuple [.int (b.2.1 : Nat), .int (b.2.2 : Nat)]] := rfl
  have e2 : PySem.W.keyToks (pyT a) = .inl 1 :: .inl a.1 :: PySem.W.keyToksAll [.tuple [.int (a.2.1 : Nat), .int (a.2.2 : Nat)]] := rfl
  show (!PyProof.Rows.lexLt itemOrd (PySem.W.keyToks (pyT b)) (PySem.W.keyToks (pyT a))) = _
  rw [e1, e2, PyProof.Rows.lex_self (O := itemOrd), PyProof.Rows.lex_diff (O := itemOrd) (show (Sum.inl b.1 : Int ⊕ List Nat) ≠ Sum.inl a.1 from fun z => hne (Sum.inl.inj z).symm)]
  show (!decide (b.1 < a.1)) = _
  by_cases h : a.1 < b.1
  · have : ¬ b.1 < a.1 := by omega
    simp [h, this]
  · have : b.1 < a.1 := by omega
    simp [h, this]
theorem strict_eq : ∀ (A B : List T3), A.Pairwise (fun a b => a.1 < b.1) → B.Pairwise (fun a b => a.1 < b.1) → (∀ t, t ∈ A ↔ t ∈ B) → A = B
  | [], [], _, _, _ => rfl
  | [], b :: B, _, _, h => by
    have := (h b).mpr (List.mem_cons_self ..)
    simp at this
  | a :: A, [], _, _, h => by
    have := (h a).mp (List.mem_cons_self ..)
    simp at this
  | a :: A, b :: B, ha, hb, h => by
    rw [List.pairwise_cons] at ha hb
    have e : a = b := by
      rcases List.mem_cons.mp ((h a).mp (List.mem_cons_self ..)) with e | e
      · exact e
      · rcases List.mem_cons.mp ((h b).mpr (List.mem_cons_self ..)) with e' | e'
        · exact e'.symm
        · have h1 := hb.1 a e
          have h2 := ha.1 b e'
          omega
    subst e
    congr 1
    refine strict_eq A B ha.2 hb.2 fun t => ?_
    constructor
    · intro ht
      rcases List.mem_cons.mp ((h t).mp (List.mem_cons_of_mem _ ht)) with e | e
      · have := ha.1 t ht
        rw [e] at this
        omega
      · exact e
    · intro ht
      rcases List.mem_cons.mp ((h t).mpr (List.mem_cons_of_mem _ ht)) with e | e
      · have := hb.1 t ht
        rw [e] at this
        omega
      · exact e
def ascL (L : List T3) : Nat → Nat → List T3
  | 0, _ => []
  | j + 1, k => match plF L (k : Nat) with
    | some x => ((k : Nat), x) :: ascL L j (k + 1)
    | none => ascL L j (k + 1)
theorem plF_mem : ∀ {L : List T3} {k : Int} {x : Nat × Nat}, (L.map (·.1)).Nodup → (plF L k = some x ↔ (k, x) ∈ L)
  | [], k, x, _ => by simp [plF]
  | t :: L, k, x, nd => by
    rw [List.map_cons, List.nodup_cons] at nd
    rw [plF_cons]
    by_cases h : t.1 = k
    · rw [if_pos h]
      constructor
      · intro e
        cases e
        rw [← h]
        exact List.mem_cons_self ..
      · intro e
        rcases List.mem_cons.mp e with e | e
        · rw [← e]
        · exact absurd (List.mem_map.mpr ⟨_, e, h.symm⟩) nd.1
    · rw [if_neg h, plF_mem nd.2]
      constructor
      · exact fun e => List.mem_cons_of_mem _ e
      · intro e
        rcases List.mem_cons.mp e with e | e
        · exact absurd (by rw [← e]) h
        · exact e
theorem ascL_mem {L : List T3} (nd : (L.map (·.1)).Nodup) : ∀ (j k : Nat) (t : T3), t ∈ ascL L j k ↔ t ∈ L ∧ (k : Int) ≤ t.1 ∧ t.1 < (k + j : Nat)
  | 0, k, t => by
    simp only [ascL, List.not_mem_nil, false_iff]
    omega
  | j + 1, k, t => by
    have ih := ascL_mem nd j (k + 1) t
    unfold ascL
    split
    · rename_i x hx
      rw [List.mem_cons, ih]
      have hm := (plF_mem nd).mp hx
      constructor
      · rintro (rfl | ⟨h1, h2, h3⟩)
        · exact ⟨hm, by simp, by simp; omega⟩
        · exact ⟨h1, by omega, by omega⟩
      · rintro ⟨h1, h2, h3⟩
        by_cases e : t.1 = (k : Nat)
        · left
          obtain ⟨a, b⟩ := t
          dsimp only at e
          subst e
          have := (plF_mem nd).mpr h1
          rw [hx] at this
          cases this
          rfl
        · right
          exact ⟨h1, by omega, by omega⟩
    · rename_i hx
      rw [ih]
      constructor
      · rintro ⟨h1, h2, h3⟩
        exact ⟨h1, by omega, by omega⟩
      · rintro ⟨h1, h2, h3⟩
        refine ⟨h1, ?_, by omega⟩
        by_cases e : t.1 = (k : Nat)
        · obtain ⟨a, b⟩ := t
          dsimp only at e
          subst e
          have := (plF_mem nd).mpr h1
          rw [hx] at this
          cases this
        · omega
theorem ascL_sorted {L : List T3} (nd : (L.map (·.1)).Nodup) : ∀ (j k : Nat), (ascL L j k).Pairwise (fun a b => a.1 < b.1)
  | 0, k => .nil
  | j + 1, k => by
    unfold ascL
    split
    · rename_i x hx
      refine List.Pairwise.cons (fun t ht => ?_) (ascL_sorted nd j (k + 1))
      have := ((ascL_mem nd j (k + 1) t).mp ht).2.1
      show (k : Int) < t.1
      omega
    · exact ascL_sorted nd j (k + 1)
theorem le_total : PySem.W.TotalLe (dataLe false pyT) := PySem.W.sortLe_total (listOrd itemOrd) false fun b => PySem.W.keyToks (pyT b)
theorem sort_asc {L : List T3} {K : Nat} (nd : (L.map (·.1)).Nodup) (hk : ∀ t ∈ L, 0 ≤ t.1 ∧ t.1 < (K : Nat)) : L.mergeSort (dataLe false pyT) = ascL L K 0 := by
  have hp := List.mergeSort_perm L (dataLe false pyT)
  have hs : (L.mergeSort (dataLe false pyT)).Pairwise fun a b => dataLe false pyT a b = true := List.pairwise_mergeSort (fun a b c => le_total.trans a b c) (fun a b => by rw [Bool.or_eq_true]; exact le_total.total a b) L
  have nd2 : ((L.mergeSort (dataLe false pyT)).map (·.1)).Nodup := (hp.map (·.1)).symm.nodup nd
  refine strict_eq _ _ ?_ (ascL_sorted nd K 0) fun t => ?_
  · have nd3 : (L.mergeSort (dataLe false pyT)).Pairwise fun a b => a.1 ≠ b.1 := List.pairwise_map.mp nd2
    refine (hs.and nd3).imp ?_
    rintro a b ⟨h1, h2⟩
    rw [le_keys h2] at h1
    exact of_decide_eq_true h1
  · rw [hp.mem_iff, ascL_mem nd]
    constructor
    · intro h
      have := hk t h
      exact ⟨h, by simpa using this.1, by simpa using this.2⟩
    · exact fun h => h.1
theorem alike_pyT (a b : T3) : PySem.W.alike (pyT a) (pyT b) = true := rfl
theorem depth_pyT (a : T3) : (pyT a).depth = 2 := rfl
theorem sortIt_ok {L : List T3} {K : Nat} {n : Nat} {h : Hm} (e : h[n]? = some (.dk (L.map kvT))) (nd : (L.map (·.1)).Nodup) (hk : ∀ t ∈ L, 0 ≤ t.1 ∧ t.1 < (K : Nat)) (hl : L.length < 1000000) :
    dSortIt (.ref n) h = .ok (.ref h.length) (h ++ [.lst ((ascL L K 0).map fun t => .tup [.int t.1, .tup [.int (t.2.1 : Nat), .int (t.2.2 : Nat)]])]) := by
  have so : sortOk (L.map kdT) = true := by
    unfold sortOk
    simp only [Bool.and_eq_true, decide_eq_true_eq, List.all_eq_true, List.length_map]
    refine ⟨⟨show L.length ≤ 1000000 by omega, fun x hx => ?_⟩, fun x hx y hy => ?_⟩
    · obtain ⟨t, _, rfl⟩ := List.mem_map.mp hx
      show (pyT t).depth ≤ 50
      rw [depth_pyT]
      omega
    · obtain ⟨t, _, rfl⟩ := List.mem_map.mp hx
      obtain ⟨u, _, rfl⟩ := List.mem_map.mp hy
      exact alike_pyT t u
  have ms : (L.map kdT).mergeSort (dataLe false (·.2)) = (L.mergeSort (dataLe false pyT)).map kdT := (List.map_mergeSort (f := kdT) (r := dataLe false pyT) (fun _ _ _ _ => rfl)).symm
  simp only [dSortIt, e, prep_ok]
  rw [if_pos so, ms, sort_asc nd hk, List.map_map]
  rfl
end Sh.k09

set_option linter.all false
set_option maxRecDepth 100000
namespace Sh.k09
open PySem L2 PyProof.Rows Sh
def isRoomD : D → Bool
  | .tup [_, .tup [_, .tup ps]] => ps.any fun z => eqF z (.str "free")
  | _ => false
def fstD : D → D
  | .tup [i, _] => i
  | _ => .non
theorem isRoom_bD (i : D) (b : Lf × List Pg) : isRoomD (.tup [i, bD b]) = rm b := by
  show (b.2.map pD).any _ = _
  rw [List.any_map]
  unfold rm
  congr 1
  funext p
  exact eqF_free p
theorem enD_mem : ∀ {bs : List (Lf × List Pg)} {k : Nat} {x : D}, x ∈ enD k (bs.map bD) → ∃ (i : Nat) (b : Lf × List Pg), b ∈ bs ∧ x = .tup [.int (i : Nat), bD b]
  | [], k, x, h => by simp [enD] at h
  | b :: bs, k, x, h => by
    rw [List.map_cons, enD] at h
    rcases List.mem_cons.mp h with rfl | h
    · exact ⟨k, b, List.mem_cons_self .., rfl⟩
    · obtain ⟨i, c, hc, e⟩ := enD_mem h
      exact ⟨i, c, List.mem_cons_of_mem _ hc, e⟩
theorem rooms_enD : ∀ (bs : List (Lf × List Pg)) (k : Nat), ((enD k (bs.map bD)).filter isRoomD).map fstD = (roomsL k bs).map fun i => D.int (i : Nat)
  | [], k => rfl
  | b :: bs, k => by
    have ih := rooms_enD bs (k + 1)
    rw [List.map_cons, enD, roomsL]
    by_cases h : rm b = true
    · rw [List.filter_cons_of_pos (by rw [isRoom_bD]; exact h), if_pos h, List.map_cons, ih]
      rfl
    · rw [List.filter_cons_of_neg (by rw [isRoom_bD]; exact h), if_neg h, ih]
theorem enD_len (bs : List (Lf × List Pg)) (k : Nat) : (enD k (bs.map bD)).length = bs.length := by rw [enD_length, List.length_map]
theorem writes_ok2 {a : D} {n1 : Nat} {R : List Nat} {h : Hm} {s2 s3 s4 s5 : Option D} (h1 : h[n1]? = some (.lst (R.map fun i => D.int (i : Nat)))) (hl : R.length < 1000) : ∃ t2, eLc (fiSeq (eVar 1)) (tName 6) (eC (.bl true)) (eTup [(eC (.str "write")), (eVar 6)]) [6] [some a, some (.ref n1), s2, s3, s4, s5, none, none] h = .ok (.ref h.length) (h ++ .lst (R.map wrD) :: t2) := by
  obtain ⟨t2, r⟩ := elc_ok (fi := fiSeq (eVar 1)) (gt := tName 6) (ft := eC (.bl true)) (fe := (eTup [(eC (.str "write")), (eVar 6)])) (own := [6]) (s := [some a, some (.ref n1), s2, s3, s4, s5, none, none]) (h := h) (ck := some (n1, R.map fun i => D.int (i : Nat))) (xs := R.map fun i => D.int (i : Nat)) (val := fun x => .tup [.str "write", x]) (tt := fun _ => true)
    (fi_ref rfl h1) (chk_old h1) (fun x hx u => ⟨[some a, some (.ref n1), s2, s3, s4, s5, some x, none], [], rfl, rfl, fun _ => by rw [List.append_nil]; rfl⟩) (by simp; omega)
  refine ⟨t2, ?_⟩
  rw [r, List.filter_eq_self.mpr (fun _ _ => rfl), List.map_map]
  rfl
theorem ext_ok {n k : Nat} {xs ys : List D} {h : Hm} (e : h[k]? = some (.lst ys)) (hl : xs.length + ys.length ≤ 1000000) : lExtend n xs [.ref k] h = .ok .non (h.set n (.lst (xs ++ ys))) := by
  have hl' : xs.length + ys.length ≤ big := hl
  simp [lExtend, e, hl']
theorem copies_ok {a : D} {n1 : Nat} {R : List Nat} {h : Hm} {s2 s5 : Option D} {key : Int} {home q : Nat} (h1 : h[n1]? = some (.lst (R.map fun i => D.int (i : Nat)))) (hl : R.length < 1000) : ∃ t2, eLc (fiSeq (eVar 1)) (tName 6) (eBin dNe (eVar 6) (eVar 4)) (eTup [(eC (.str "copy")), (eVar 3), (eVar 6)]) [6] [some a, some (.ref n1), s2, some (.int key), some (.int (home : Nat)), s5, none, none] h = .ok (.ref h.length) (h ++ .lst (cpL key (some (home, q)) R) :: t2) := by
  obtain ⟨t2, r⟩ := elc_ok (fi := fiSeq (eVar 1)) (gt := tName 6) (ft := (eBin dNe (eVar 6) (eVar 4))) (fe := (eTup [(eC (.str "copy")), (eVar 3), (eVar 6)])) (own := [6]) (s := [some a, some (.ref n1), s2, some (.int key), some (.int (home : Nat)), s5, none, none]) (h := h) (ck := some (n1, R.map fun i => D.int (i : Nat))) (xs := R.map fun i => D.int (i : Nat)) (val := fun x => .tup [.str "copy", .int key, x]) (tt := fun x => match x with | .int i => !decide (i = (home : Int)) | _ => false)
    (fi_ref rfl h1) (chk_old h1) (fun x hx u => by
      obtain ⟨i, hi, rfl⟩ := List.mem_map.mp hx
      exact ⟨[some a, some (.ref n1), s2, some (.int key), some (.int (home : Nat)), s5, some (.int (i : Nat)), none], [], rfl, by simp only [x_bin, x_var, List.getElem?_cons_zero, List.getElem?_cons_succ, ofO_some, RD.bind_ok, nq_int], fun _ => by rw [List.append_nil]; rfl⟩) (by simp; omega)
  refine ⟨t2, ?_⟩
  rw [r, List.filter_map, List.map_map]
  have e : (R.filter ((fun x => match x with | .int i => !decide (i = (home : Int)) | _ => false) ∘ fun i : Nat => D.int (i : Nat))) = R.filter fun b => !decide (home = b) := by
    congr 1
    funext b
    show (!decide ((b : Int) = (home : Int))) = (!decide (home = b))
    congr 1
    exact decide_eq_decide.mpr ⟨fun z => (Int.ofNat.inj z).symm, fun z => by rw [z]⟩
  rw [e]
  rfl
def isErD (f : D → Bool) : D → Bool
  | .tup [_, b] => f b
  | _ => false
end Sh.k09

set_option linter.all false
set_option maxRecDepth 100000
namespace Sh.k09
open PySem L2 PyProof.Rows Sh
def notInt : D → Bool
  | .int _ => false
  | _ => true
def lfB : D → Bool
  | .non => false
  | .int n => !decide (n = 0)
  | _ => true
def erF : D → Bool
  | .tup [_, .tup [l, .tup ps]] => lfB l && (ps.any fun z => !eqF z (.str "free")) && ps.all notInt
  | _ => false
theorem erF_bD (i : D) (b : Lf × List Pg) : erF (.tup [i, bD b]) = er b := by
  show (lfB (lD b.1) && ((b.2.map pD).any fun z => !eqF z (.str "free")) && (b.2.map pD).all notInt) = _
  rw [List.any_map, List.all_map]
  unfold er
  congr 1
  · congr 1
    · cases b.1 <;> rfl
    · congr 1
      funext p
      show (!eqF (pD p) _) = _
      rw [eqF_free]
  · congr 1
    funext p
    cases p <;> rfl
theorem ers_enD : ∀ (bs : List (Lf × List Pg)) (k : Nat), ((enD k (bs.map bD)).filter erF).map (fun x => D.tup [.str "erase", fstD x]) = ersL k bs
  | [], k => rfl
  | b :: bs, k => by
    have ih := ers_enD bs (k + 1)
    rw [List.map_cons, enD, ersL]
    by_cases h : er b = true
    · rw [List.filter_cons_of_pos (by rw [erF_bD]; exact h), if_pos h, List.map_cons, ih]
      rfl
    · rw [List.filter_cons_of_neg (by rw [erF_bD]; exact h), if_neg h, ih]
end Sh.k09

set_option linter.all false
set_option maxRecDepth 100000
namespace Sh.k09
open PySem L2 PyProof.Rows Sh
def tD (t : T3) : D := .tup [.int t.1, .tup [.int (t.2.1 : Nat), .int (t.2.2 : Nat)]]
def cpAll (R : List Nat) (ts : List T3) : List D := (ts.map fun t => cpL t.1 (some t.2) R).flatten
abbrev bodyS : FS := (gDrop (eLm lExtend (eVar 2) [(eLc (fiSeq (eVar 1)) (tName 6) (eBin dNe (eVar 6) (eVar 4)) (eTup [(eC (.str "copy")), (eVar 3), (eVar 6)]) [6])]))
theorem s_loop {a : D} {n1 n2 nP : Nat} {R : List Nat} {all : List D} (hR : R.length ≤ 9) (d1 : n1 ≠ n2) (d2 : nP ≠ n2) : ∀ (ts : List T3) (H : Hm) (acc : List D) (x3 x4 x5 : Option D), H[n1]? = some (.lst (R.map fun i => D.int (i : Nat))) → H[n2]? = some (.lst acc) → H[nP]? = some (.lst all) → acc.length + ts.length * 9 < 1000000 →
    ∃ (H' : Hm) (x3' x4' x5' : Option D), H'[n2]? = some (.lst (acc ++ cpAll R ts)) ∧ H.length ≤ H'.length ∧ (∀ m, m < H.length → m ≠ n2 → H'[m]? = H[m]?) ∧
      loopG (some (nP, all)) (tTup [(tName 3), (tTup [(tName 4), (tName 5)])]) bodyS (ts.map tD) [some a, some (.ref n1), some (.ref n2), x3, x4, x5, none, none] H = .nx [some a, some (.ref n1), some (.ref n2), x3', x4', x5', none, none] H'
  | [], H, acc, x3, x4, x5, _, h2, hP, _ => ⟨H, x3, x4, x5, by rw [h2]; simp [cpAll], Nat.le_refl _, fun _ _ _ => rfl, by rw [List.map_nil, loop_nil (chk_ref hP)]⟩
  | t :: ts, H, acc, x3, x4, x5, h1, h2, hP, hl => by
    simp only [List.length_cons, Nat.succ_mul] at hl
    obtain ⟨key, home, q⟩ := t
    obtain ⟨t2, ec⟩ := copies_ok (a := a) (s2 := some (.ref n2)) (s5 := some (.int (q : Nat))) (key := key) (home := home) (q := q) h1 (by omega)
    have lc := cpL_len key (some (home, q)) R
    obtain ⟨G, eG⟩ : ∃ G : Hm, G = H ++ .lst (cpL key (some (home, q)) R) :: t2 := ⟨_, rfl⟩
    rw [← eG] at ec
    have oldG : ∀ m, m < H.length → G[m]? = H[m]? := fun m hm => by rw [eG, List.getElem?_append_left hm]
    have gC : G[H.length]? = some (.lst (cpL key (some (home, q)) R)) := by rw [eG]; simp
    have g2 : G[n2]? = some (.lst acc) := by rw [oldG n2 (lt_of_get h2)]; exact h2
    have lG : H.length ≤ G.length := by rw [eG]; simp
    have eb : bodyS [some a, some (.ref n1), some (.ref n2), some (.int key), some (.int (home : Nat)), some (.int (q : Nat)), none, none] H = .nx [some a, some (.ref n1), some (.ref n2), some (.int key), some (.int (home : Nat)), some (.int (q : Nat)), none, none] (G.set n2 (.lst (acc ++ cpL key (some (home, q)) R))) := by
      unfold bodyS
      rw [x_drop, x_lm, x_var]
      show RD.st (RD.bind (.ok (.ref n2) H) _) _ _ = _
      rw [RD.bind_ok, lmB_ref (gl := lExtend) h2, evR_cons, ec, RD.bind_ok, evR_nil, lmC_ok (gl := lExtend) g2, ext_ok gC (by omega)]
      rfl
    obtain ⟨H', y3, y4, y5, k1, k2, k3, k4⟩ := s_loop hR d1 d2 ts (G.set n2 (.lst (acc ++ cpL key (some (home, q)) R))) (acc ++ cpL key (some (home, q)) R) (some (.int key)) (some (.int (home : Nat))) (some (.int (q : Nat)))
      (by rw [List.getElem?_set_ne (Ne.symm d1), oldG n1 (lt_of_get h1)]; exact h1) (List.getElem?_set_self (lt_of_get g2)) (by rw [List.getElem?_set_ne (Ne.symm d2), oldG nP (lt_of_get hP)]; exact hP) (by rw [List.length_append]; omega)
    refine ⟨H', y3, y4, y5, ?_, ?_, fun m hm hne => ?_, ?_⟩
    · rw [k1, List.append_assoc]
      rfl
    · rw [List.length_set] at k2; omega
    · rw [k3 m (by rw [List.length_set]; omega) hne, List.getElem?_set_ne (Ne.symm hne), oldG m hm]
    · rw [List.map_cons, loop_cons (chk_ref hP) (s1 := [some a, some (.ref n1), some (.ref n2), some (.int key), some (.int (home : Nat)), some (.int (q : Nat)), none, none]) (h1 := H) rfl, eb, lp_nx, k4]
theorem cps_asc (S : Sd) : ∀ (j k : Nat), cpAll (roomsL 0 S.blocks) (ascL (plB 0 S.blocks) j k) = cpsL S j k
  | 0, k => rfl
  | j + 1, k => by
    have ih := cps_asc S j (k + 1)
    unfold ascL cpsL
    cases h : plF (plB 0 S.blocks) (k : Nat) with
    | none =>
      dsimp only
      rw [ih]
      rfl
    | some x =>
      dsimp only
      rw [← ih]
      rfl
theorem ascL_len (L : List T3) : ∀ (j k : Nat), (ascL L j k).length ≤ j
  | 0, k => Nat.le_refl _
  | j + 1, k => by
    have := ascL_len L j (k + 1)
    unfold ascL
    split <;> simp <;> omega
end Sh.k09

set_option linter.all false
set_option maxRecDepth 100000
namespace Sh.k09
open PySem L2 PyProof.Rows Sh
theorem ersL_len : ∀ (k : Nat) (bs : List (Lf × List Pg)), (ersL k bs).length ≤ bs.length
  | _, [] => Nat.le_refl _
  | k, b :: bs => by
    have := ersL_len (k + 1) bs
    unfold ersL
    split <;> simp <;> omega
end Sh.k09

set_option linter.all false
set_option maxRecDepth 100000
namespace Sh.k09
open PySem L2 PyProof.Rows Sh
theorem pure_app (n : Nat) : ∀ A B : List D, pureL n A = true → pureL n B = true → pureL n (A ++ B) = true
  | [], B, _, hb => hb
  | a :: A, B, ha, hb => by
    simp only [pureL, Bool.and_eq_true] at ha
    simp only [List.cons_append, pureL, ha.1, pure_app n A B ha.2 hb, Bool.and_self]
theorem pure_of (n : Nat) : ∀ A : List D, (∀ a ∈ A, pureD n a = true) → pureL n A = true
  | [], _ => by simp [pureL]
  | a :: A, h => by
    simp only [pureL, h a (List.mem_cons_self ..), pure_of n A fun b hb => h b (List.mem_cons_of_mem _ hb), Bool.and_self]
theorem pure_cpL (key : Int) (pl : Option (Nat × Nat)) (R : List Nat) : pureL 6 (cpL key pl R) = true := by
  refine pure_of 6 _ fun a ha => ?_
  cases pl with
  | none => simp [cpL] at ha
  | some x =>
    obtain ⟨b, _, rfl⟩ := List.mem_map.mp (show a ∈ (R.filter _).map (cpD key) from ha)
    rfl
theorem pure_cps (S : Sd) : ∀ j k, pureL 6 (cpsL S j k) = true
  | 0, _ => rfl
  | j + 1, k => pure_app 6 _ _ (pure_cpL _ _ _) (pure_cps S j (k + 1))
theorem pure_ers : ∀ (k : Nat) (bs : List (Lf × List Pg)), pureL 6 (ersL k bs) = true
  | _, [] => rfl
  | k, b :: bs => by
    unfold ersL
    split
    · simp only [pureL, pure_ers (k + 1) bs, Bool.and_true]
      rfl
    · exact pure_ers (k + 1) bs
theorem pure_acts (S : Sd) : pureL 6 (actsD S) = true := by
  unfold actsD
  split
  · rfl
  · refine pure_app 6 _ _ (pure_app 6 _ _ (pure_of 6 _ fun a ha => ?_) (pure_cps S _ _)) (pure_ers 0 _)
    obtain ⟨b, _, rfl⟩ := List.mem_map.mp ha
    rfl
theorem acts_len {S : Sd} {pages : Nat} (o : SdOk S pages) : (actsD S).length < 1000000 := by
  have l9 : (roomsL 0 S.blocks).length ≤ 9 := Nat.le_trans (roomsL_len 0 S.blocks) o.b2
  have h1 := cpsL_len S l9 S.keys.toNat 0
  have h2 := ersL_len 0 S.blocks
  have := o.b2
  have := o.k2
  unfold actsD
  split
  · simp
  · simp
    omega
end Sh.k09

set_option linter.all false
set_option maxRecDepth 100000
namespace Sh.k09
open PySem L2 PyProof.Rows Sh
theorem keys_list {S : Sd} {pages : Nat} (o : SdOk S pages) {sc st : D} {nd : Nat} {d0 d1 : Int} {h : Hm} (hn : h[nd]? = some (.lst [.int d0, .int d1])) (s5 s6 s4 : Option D) : ∃ (n : Nat) (all : List D) (t : Hm), (h ++ t)[n]? = some (.lst all) ∧ (∀ x ∈ all, KeyOr S.keys x (h ++ t)) ∧
    fiSeq (eBin dAdd (eListRg (eBin dIx (eVar 1) (eC (.int 0)))) (eLst [(eBin dIx (eVar 1) (eC (.int 0))), (eArgs m__law_odd [(eBin dIx (eVar 2) (eC (.int 0)))]), (eArgs m__law_odd [(eBin dIx (eVar 2) (eC (.int 1)))])])) [some sc, some S.enc, some (.ref nd), some st, s4, s5, s6] h = .ok all (some (n, all)) (h ++ t) := by
  have k1 := o.k1
  have k2 := o.k2
  have bl : (S.keys ≤ 1000000 ∧ -1000000 ≤ S.keys) := ⟨by omega, by omega⟩
  obtain ⟨h4, eh4⟩ : ∃ h4 : Hm, h4 = h ++ [.lst (rgD 0 S.keys)] := ⟨_, rfl⟩
  have hn4 : h4[nd]? = some (.lst [.int d0, .int d1]) := by rw [eh4, get_old (lt_of_get hn)]; exact hn
  obtain ⟨x0, m0, e0⟩ := x_odd d0 h4
  obtain ⟨h5, eh5⟩ : ∃ h5 : Hm, h5 = h4 ++ [O.lst [], O.lst [.int 0], O.lst (oddL h4.length)] := ⟨_, rfl⟩
  rw [← eh5] at e0
  have hn5 : h5[nd]? = some (.lst [.int d0, .int d1]) := by rw [eh5, List.getElem?_append_left (lt_of_get hn4)]; exact hn4
  obtain ⟨x1, m1, e1⟩ := x_odd d1 h5
  obtain ⟨h6, eh6⟩ : ∃ h6 : Hm, h6 = h5 ++ [O.lst [], O.lst [.int 0], O.lst (oddL h5.length)] := ⟨_, rfl⟩
  rw [← eh6] at e1
  obtain ⟨h7, eh7⟩ : ∃ h7 : Hm, h7 = h6 ++ [O.lst [.int S.keys, x0, x1]] := ⟨_, rfl⟩
  have l4 : h4.length = h.length + 1 := by rw [eh4]; simp
  have l5 : h5.length = h4.length + 3 := by rw [eh5]; simp
  have l6 : h6.length = h5.length + 3 := by rw [eh6]; simp
  have gR : h7[h.length]? = some (.lst (rgD 0 S.keys)) := by
    rw [eh7, get_old (by omega), eh6, List.getElem?_append_left (by omega), eh5, List.getElem?_append_left (by omega), eh4]
    exact get_last
  have gX : h7[h6.length]? = some (.lst [.int S.keys, x0, x1]) := by rw [eh7]; exact get_last
  have ad := addL gR gX (by rw [rgD_length]; simp; omega)
  obtain ⟨h8, eh8⟩ : ∃ h8 : Hm, h8 = h7 ++ [O.lst (rgD 0 S.keys ++ [.int S.keys, x0, x1])] := ⟨_, rfl⟩
  rw [← eh8] at ad
  have ex : ∃ t, h8 = h ++ t := ⟨[.lst (rgD 0 S.keys)] ++ ([O.lst [], O.lst [.int 0], O.lst (oddL h4.length)] ++ ([O.lst [], O.lst [.int 0], O.lst (oddL h5.length)] ++ ([O.lst [.int S.keys, x0, x1]] ++ [O.lst (rgD 0 S.keys ++ [.int S.keys, x0, x1])]))), by
    rw [eh8, eh7, eh6, eh5, eh4]
    simp only [List.append_assoc]⟩
  obtain ⟨t, et⟩ := ex
  have g8 : h8[h7.length]? = some (.lst (rgD 0 S.keys ++ [.int S.keys, x0, x1])) := by rw [eh8]; exact get_last
  have l7 : h7.length = h6.length + 1 := by rw [eh7]; simp
  have a0 : h8[h4.length]? = some (.lst []) ∧ h8[h4.length + 1]? = some (.lst [.int 0]) := by
    constructor
    · rw [eh8, get_old (by omega), eh7, get_old (by omega), eh6, List.getElem?_append_left (by omega), eh5]; simp
    · rw [eh8, get_old (by omega), eh7, get_old (by omega), eh6, List.getElem?_append_left (by omega), eh5]; simp
  have a1 : h8[h5.length]? = some (.lst []) ∧ h8[h5.length + 1]? = some (.lst [.int 0]) := by
    constructor
    · rw [eh8, get_old (by omega), eh7, get_old (by omega), eh6]; simp
    · rw [eh8, get_old (by omega), eh7, get_old (by omega), eh6]; simp
  have up : ∀ {m : Nat} {ob : O} (u : Hm), h8[m]? = some ob → (h8 ++ u)[m]? = some ob := fun u e => by rw [List.getElem?_append_left (lt_of_get e)]; exact e
  refine ⟨h7.length, rgD 0 S.keys ++ [.int S.keys, x0, x1], t, by rw [← et]; exact g8, fun x hx => ?_, ?_⟩
  · rw [← et]
    rcases List.mem_append.mp hx with hx | hx
    · obtain ⟨i, hi⟩ := List.mem_iff_getElem?.mp hx
      obtain ⟨h1, rfl⟩ := rgD_get hi
      exact .inr ⟨_, rfl, by omega, by omega⟩
    · simp only [List.mem_cons, List.not_mem_nil, or_false] at hx
      rcases hx with rfl | rfl | rfl
      · exact .inl fun u => bad_int (by omega)
      · exact .inl fun u => bad_odd k2 (up u a0.1) (up u a0.2) m0
      · exact .inl fun u => bad_odd k2 (up u a1.1) (up u a1.2) m1
  · rw [← et]
    have j0 : ∀ H : Hm, dIx S.enc (.int 0) H = .ok (.int S.keys) H := fun H => ix_tup (k := 0) rfl
    have i0 : dIx (.ref nd) (.int 0) h4 = .ok (.int d0) h4 := ix_ref (k := 0) hn4 rfl
    have i1 : dIx (.ref nd) (.int 1) h5 = .ok (.int d1) h5 := ix_ref (k := 1) hn5 rfl
    refine fi_ref ?_ g8
    have er : (eListRg (eBin dIx (eVar 1) (eC (.int 0)))) [some sc, some S.enc, some (.ref nd), some st, s4, s5, s6] h = .ok (.ref h.length) h4 := by
      have : (eBin dIx (eVar 1) (eC (.int 0))) [some sc, some S.enc, some (.ref nd), some st, s4, s5, s6] h = .ok (.int S.keys) h := by
        simp only [x_bin, x_var, x_c, List.getElem?_cons_zero, List.getElem?_cons_succ, ofO_some, RD.bind_ok, j0]
      unfold eListRg
      rw [this, RD.bind_ok]
      unfold bListRg
      dsimp only
      rw [if_pos bl, eh4]
    have el : (eLst [(eBin dIx (eVar 1) (eC (.int 0))), (eArgs m__law_odd [(eBin dIx (eVar 2) (eC (.int 0)))]), (eArgs m__law_odd [(eBin dIx (eVar 2) (eC (.int 1)))])]) [some sc, some S.enc, some (.ref nd), some st, s4, s5, s6] h4 = .ok (.ref h6.length) h7 := by
      rw [eh7]
      simp only [x_lst, evR_cons, evR_nil, x_bin, x_args, x_var, x_c, List.getElem?_cons_zero, List.getElem?_cons_succ, ofO_some, RD.bind_ok, j0, i0, e0, i1, e1]
    rw [x_bin, er, RD.bind_ok, el, RD.bind_ok, ad]
theorem same_enc {S : Sd} {pages : Nat} (o : SdOk S pages) (h : Hm) : m__law_same 8 [S.enc, S.enc] h = .ok (.bl true) h := x_same 7 S.enc h (pure_enc o 3)
end Sh.k09

set_option linter.all false
set_option maxRecDepth 100000
namespace Sh.k09
open PySem L2 PyProof.Rows Sh
end Sh.k09

set_option linter.all false
set_option maxRecDepth 100000
namespace Sh.k09
open PySem L2 PyProof.Rows Sh
def fillP : List Pg → Pg → List Pg
  | [], _ => []
  | .free :: r, x => x :: r
  | p :: r, x => p :: fillP r x
def ageK (k : Int) : Pg → Pg
  | .key j => if j = k then .old else .key j
  | p => p
def ageB (k : Int) (b : Lf × List Pg) : Lf × List Pg := (b.1, b.2.map (ageK k))
def fillB (b : Lf × List Pg) (x : Pg) : Lf × List Pg := (b.1, fillP b.2 x)
def badP : Pg → Pg
  | .free => .old
  | p => p
def badB (b : Lf × List Pg) : Lf × List Pg := (.bad, b.2.map badP)
def wear : Lf → Lf
  | .num n => .num (n - 1)
  | l => l
def eraB (b : Lf × List Pg) (x : Pg) : Lf × List Pg := (wear b.1, List.replicate b.2.length x)
def cpB (bs : List (Lf × List Pg)) (k : Int) (i : Nat) (b : Lf × List Pg) : List (Lf × List Pg) := (bs.map (ageB k)).set i (fillB (ageB k b) (.key k))
inductive Rp where
  | done | bad | cut | late
  deriving DecidableEq
inductive Ac where
  | wr (b : Nat) | cp (k : Int) (b : Nat) | er (b : Nat)
def Rp.s : Rp → Str
  | .done => "done" | .bad => "bad" | .cut => "cut" | .late => "late"
def acD : Ac → D
  | .wr b => wrD b | .cp k b => cpD k b | .er b => erD b
def Ac.at : Ac → Nat
  | .wr b => b | .cp _ b => b | .er b => b
def behB (S : Sd) (a : Ac) (r : Rp) (b : Lf × List Pg) : List (Lf × List Pg) := match r, a with
  | .bad, a => S.blocks.set a.at (badB b)
  | .cut, .er i => S.blocks.set i (eraB b .old)
  | _, .er i => S.blocks.set i (eraB b .free)
  | .cut, a => S.blocks.set a.at (fillB b .old)
  | _, .wr i => cpB S.blocks (S.due.getD 0) i b
  | _, .cp k i => cpB S.blocks k i b
def beh (S : Sd) (a : Ac) (r : Rp) (b : Lf × List Pg) : Sd := match r with
  | .bad => { S with blocks := behB S a r b, fails := S.fails - 1 }
  | .done => { S with blocks := behB S a r b, due := match a with
    | .wr _ => none
    | _ => S.due }
  | _ => { S with blocks := behB S a r b, cuts := S.cuts - 1, due := none }
structure AcOk (S : Sd) (a : Ac) (b : Lf × List Pg) : Prop where
  at_ : S.blocks[a.at]? = some b
  due : ∃ d, S.due = some d
  room : (∀ i, a ≠ .er i) → rm b = true
  era : ∀ i, a = .er i → er b = true
  key : ∀ k i, a = .cp k i → k ∈ allKeys S.blocks
def RpOk (S : Sd) : Rp → Prop
  | .done => True
  | .bad => 0 < S.fails
  | _ => 0 < S.cuts
theorem fillP_set : ∀ (ps : List Pg) (x : Pg) (w : Nat), ps[w]? = some .free → (∀ i p, i < w → ps[i]? = some p → p ≠ .free) → fillP ps x = ps.set w x
  | [], _, _, e, _ => by simp at e
  | p :: ps, x, 0, e, _ => by
    simp at e
    subst e
    rfl
  | p :: ps, x, w + 1, e, h => by
    have hp : p ≠ .free := h 0 p (by omega) rfl
    have ih := fillP_set ps x w (by simpa using e) fun i q hi hq => h (i + 1) q (by omega) (by simpa using hq)
    cases p with
    | free => exact absurd rfl hp
    | old => simp only [fillP, ih, List.set_cons_succ]
    | key k => simp only [fillP, ih, List.set_cons_succ]
theorem rm_first {pages : Nat} {b : Lf × List Pg} (o : BkOk pages b) (r : rm b = true) : ∃ w, w < pages ∧ b.1 ≠ .bad ∧ b.2[w]? = some .free ∧ (∀ i p, b.2[i]? = some p → (w ≤ i ↔ p = .free)) ∧ ∀ x, fillP b.2 x = b.2.set w x := by
  obtain ⟨_, hl, w, hw, hb, hf⟩ := o
  unfold rm at r
  obtain ⟨p, hp, hq⟩ := List.any_eq_true.mp r
  have hpf : p = .free := by cases p <;> first | rfl | cases hq
  subst hpf
  obtain ⟨i, hi, e⟩ := List.mem_iff_getElem.mp hp
  have h1 := (hf i .free (by rw [List.getElem?_eq_getElem hi, e])).mpr rfl
  have hw2 : w < b.2.length := by omega
  have e2 : b.2[w]? = some .free := by
    have := (hf w b.2[w] (List.getElem?_eq_getElem hw2)).mp (Nat.le_refl _)
    rw [List.getElem?_eq_getElem hw2, this]
  refine ⟨w, by omega, fun z => by have := hb z; omega, e2, hf, fun x => fillP_set _ _ _ e2 fun i p hi hp z => ?_⟩
  have := (hf i p hp).mpr z
  omega
theorem bk_bad {pages : Nat} {b : Lf × List Pg} (o : BkOk pages b) : BkOk pages (badB b) := by
  obtain ⟨_, hl, _⟩ := o
  refine ⟨trivial, by simp [badB, hl], pages, Nat.le_refl _, fun _ => rfl, fun i p hp => ?_⟩
  have hi : i < pages := by
    have := (List.getElem?_eq_some_iff.mp hp).1
    simp [badB] at this
    omega
  refine ⟨fun z => by omega, fun z => ?_⟩
  subst z
  simp only [badB, List.getElem?_map] at hp
  cases q : b.2[i]? with
  | none => rw [q] at hp; cases hp
  | some p' => rw [q] at hp; cases p' <;> simp [badP] at hp
theorem wear_ok {l : Lf} (o : lfOk l) (h : l ≠ .num 0) : lfOk (wear l) := by
  cases l with
  | num n =>
    have h1 : 0 ≤ n ∧ n ≤ 99 := o
    have h2 : n ≠ 0 := fun z => h (by rw [z])
    show 0 ≤ n - 1 ∧ n - 1 ≤ 99
    omega
  | _ => trivial
theorem er_left {b : Lf × List Pg} (h : er b = true) : b.1 ≠ .bad ∧ b.1 ≠ .num 0 ∧ b.2.all noKey = true := by
  obtain ⟨l, ps⟩ := b
  unfold er at h
  simp only [Bool.and_eq_true] at h
  refine ⟨fun z => ?_, fun z => ?_, h.2⟩
  · simp only at z
    subst z
    simp at h
  · simp only at z
    subst z
    simp at h
theorem wear_bad {l : Lf} (h : l ≠ .bad) : wear l ≠ .bad := by cases l <;> simp_all [wear]
theorem bk_era {pages : Nat} {b : Lf × List Pg} (o : BkOk pages b) (h : er b = true) {x : Pg} (hx : x = .free ∨ x = .old) : BkOk pages (eraB b x) := by
  obtain ⟨h1, h2, _⟩ := er_left h
  obtain ⟨ho, hl, _⟩ := o
  have get : ∀ i p, (eraB b x).2[i]? = some p → i < pages ∧ p = x := fun i p hp => by
    simp only [eraB, List.getElem?_replicate] at hp
    split at hp
    · cases hp
      exact ⟨by omega, rfl⟩
    · cases hp
  rcases hx with rfl | rfl
  · refine ⟨wear_ok ho h2, by simp [eraB, hl], 0, by omega, fun z => absurd z (wear_bad h1), fun i p hp => ⟨fun _ => (get i p hp).2, fun _ => by omega⟩⟩
  · refine ⟨wear_ok ho h2, by simp [eraB, hl], pages, Nat.le_refl _, fun _ => rfl, fun i p hp => ?_⟩
    obtain ⟨g1, rfl⟩ := get i p hp
    exact ⟨fun z => by omega, fun z => by cases z⟩
theorem bk_age {pages : Nat} {b : Lf × List Pg} (o : BkOk pages b) (k : Int) : BkOk pages (ageB k b) := by
  obtain ⟨ho, hl, w, hw, hb, hf⟩ := o
  refine ⟨ho, by simp [ageB, hl], w, hw, hb, fun i p hp => ?_⟩
  simp only [ageB, List.getElem?_map] at hp
  cases q : b.2[i]? with
  | none => rw [q] at hp; cases hp
  | some p' =>
    rw [q] at hp
    have := hf i p' q
    cases p' with
    | free => simp [ageK] at hp; subst hp; exact this
    | old => simp [ageK] at hp; subst hp; exact this
    | key j =>
      simp only [Option.map_some, ageK, Option.some.injEq] at hp
      have h3 : ¬ w ≤ i := fun z => by have := this.mp z; cases this
      refine ⟨fun z => absurd z h3, fun z => ?_⟩
      subst z
      split at hp <;> cases hp
theorem rm_age (k : Int) (b : Lf × List Pg) : rm (ageB k b) = rm b := by
  unfold rm ageB
  simp only [List.any_map]
  congr 1
  funext p
  cases p with
  | key j =>
    simp only [Function.comp, ageK]
    split <;> rfl
  | _ => rfl
theorem bk_fill {pages : Nat} {b : Lf × List Pg} (o : BkOk pages b) (r : rm b = true) {x : Pg} (hx : x ≠ .free) : BkOk pages (fillB b x) := by
  obtain ⟨w, hw, hb, e, hf, hset⟩ := rm_first o r
  obtain ⟨ho, hl, _⟩ := o
  refine ⟨ho, by simp [fillB, hset, hl], w + 1, by omega, fun z => absurd z hb, fun i p hp => ?_⟩
  simp only [fillB, hset] at hp
  by_cases hi : i = w
  · subst hi
    rw [List.getElem?_set_self (by omega)] at hp
    cases hp
    exact ⟨fun z => by omega, fun z => absurd z hx⟩
  · rw [List.getElem?_set_ne (fun z => hi z.symm)] at hp
    have := hf i p hp
    rw [← this]
    omega
theorem keys_bad (ps : List Pg) : keysOf (ps.map badP) = keysOf ps := by
  induction ps with
  | nil => rfl
  | cons p ps ih => cases p <;> simp [keysOf, badP, ih]
theorem keys_fill_old (ps : List Pg) : keysOf (fillP ps .old) = keysOf ps := by
  induction ps with
  | nil => rfl
  | cons p ps ih => cases p <;> simp [keysOf, fillP, ih]
theorem keys_fill_key (k : Int) : ∀ ps : List Pg, (∃ p ∈ ps, p = .free) → (keysOf (fillP ps (.key k))).Perm (k :: keysOf ps)
  | [], h => by obtain ⟨p, hp, _⟩ := h; cases hp
  | p :: ps, h => by
    cases p with
    | free => exact .refl _
    | old =>
      have := keys_fill_key k ps (by
        obtain ⟨q, hq, rfl⟩ := h
        rcases List.mem_cons.mp hq with hq | hq
        · cases hq
        · exact ⟨_, hq, rfl⟩)
      simpa [keysOf, fillP] using this
    | key j =>
      have := keys_fill_key k ps (by
        obtain ⟨q, hq, rfl⟩ := h
        rcases List.mem_cons.mp hq with hq | hq
        · cases hq
        · exact ⟨_, hq, rfl⟩)
      simp only [keysOf, fillP]
      exact (this.cons j).trans (.swap _ _ _)
theorem keys_age (k : Int) (ps : List Pg) : keysOf (ps.map (ageK k)) = (keysOf ps).filter fun j => !decide (j = k) := by
  induction ps with
  | nil => rfl
  | cons p ps ih =>
    cases p with
    | free => simpa [keysOf, ageK] using ih
    | old => simpa [keysOf, ageK] using ih
    | key j =>
      by_cases hj : j = k
      · simp [keysOf, ageK, hj, ih]
      · simp [keysOf, ageK, hj, ih]
theorem keys_rep {n : Nat} {x : Pg} (hx : x = .free ∨ x = .old) : keysOf (List.replicate n x) = [] := by
  induction n with
  | zero => rfl
  | succ n ih =>
    rw [List.replicate_succ]
    rcases hx with rfl | rfl <;> exact ih
theorem keys_none {ps : List Pg} (h : ps.all noKey = true) : keysOf ps = [] := by
  induction ps with
  | nil => rfl
  | cons p ps ih =>
    rw [List.all_cons, Bool.and_eq_true] at h
    cases p with
    | key k => cases h.1
    | _ => exact ih h.2
theorem all_set {bs : List (Lf × List Pg)} {i : Nat} {b c : Lf × List Pg} (hb : bs[i]? = some b) (hk : keysOf c.2 = keysOf b.2) : allKeys (bs.set i c) = allKeys bs := by
  unfold allKeys
  congr 1
  apply List.ext_getElem?
  intro j
  rw [List.getElem?_map, List.getElem?_map]
  by_cases hj : i = j
  · subst hj
    rw [List.getElem?_set_self (List.getElem?_eq_some_iff.mp hb).1, hb]
    simp [hk]
  · rw [List.getElem?_set_ne hj]
theorem all_set_key {k : Int} : ∀ {bs : List (Lf × List Pg)} {i : Nat} {b c : Lf × List Pg}, bs[i]? = some b → (keysOf c.2).Perm (k :: keysOf b.2) → (allKeys (bs.set i c)).Perm (k :: allKeys bs)
  | [], _, _, _, e, _ => by simp at e
  | x :: bs, 0, b, c, e, h => by
    simp at e
    subst e
    show (keysOf c.2 ++ allKeys bs).Perm (k :: (keysOf x.2 ++ allKeys bs))
    exact h.append_right _
  | x :: bs, i + 1, b, c, e, h => by
    have ih := all_set_key (bs := bs) (i := i) (b := b) (c := c) (by simpa using e) h
    show (keysOf x.2 ++ allKeys (bs.set i c)).Perm (k :: (keysOf x.2 ++ allKeys bs))
    exact (ih.append_left _).trans List.perm_middle
theorem all_age (k : Int) (bs : List (Lf × List Pg)) : allKeys (bs.map (ageB k)) = (allKeys bs).filter fun j => !decide (j = k) := by
  induction bs with
  | nil => rfl
  | cons b bs ih =>
    show keysOf (b.2.map (ageK k)) ++ allKeys (bs.map (ageB k)) = (keysOf b.2 ++ allKeys bs).filter _
    rw [List.filter_append, keys_age, ih]
theorem cp_keys {bs : List (Lf × List Pg)} {i : Nat} {b : Lf × List Pg} {pages : Nat} (k : Int) (hb : bs[i]? = some b) (o : BkOk pages b) (r : rm b = true) : (allKeys (cpB bs k i b)).Perm (k :: (allKeys bs).filter fun j => !decide (j = k)) := by
  have h1 : (bs.map (ageB k))[i]? = some (ageB k b) := by rw [List.getElem?_map, hb]; rfl
  have h2 := all_set_key (k := k) (c := fillB (ageB k b) (.key k)) h1 (keys_fill_key k _ (by
    have := rm_age k b
    rw [r] at this
    unfold rm at this
    obtain ⟨p, hp, hq⟩ := List.any_eq_true.mp this
    exact ⟨p, hp, by cases p <;> first | rfl | cases hq⟩))
  rw [all_age] at h2
  exact h2
theorem beh_ok {S : Sd} {pages : Nat} {a : Ac} {r : Rp} {b : Lf × List Pg} (o : SdOk S pages) (ha : AcOk S a b) (hr : RpOk S r) : SdOk (beh S a r b) pages := by
  have hbm : b ∈ S.blocks := List.mem_of_getElem? ha.at_
  have ob := o.bk b hbm
  obtain ⟨d, hd⟩ := ha.due
  have hdd := o.d d hd
  -- the blocks
  have main : (∀ c ∈ behB S a r b, BkOk pages c) ∧ (behB S a r b).length = S.blocks.length ∧ (allKeys (behB S a r b)).Nodup ∧ ∀ k ∈ allKeys (behB S a r b), 0 ≤ k ∧ k < S.keys := by
    have one : ∀ c, BkOk pages c → keysOf c.2 = keysOf b.2 → (∀ x ∈ S.blocks.set a.at c, BkOk pages x) ∧ (S.blocks.set a.at c).length = S.blocks.length ∧ (allKeys (S.blocks.set a.at c)).Nodup ∧ ∀ k ∈ allKeys (S.blocks.set a.at c), 0 ≤ k ∧ k < S.keys := by
      intro c hc hk
      refine ⟨fun x hx => ?_, List.length_set .., ?_, ?_⟩
      · rcases List.mem_or_eq_of_mem_set hx with hx | rfl
        · exact o.bk x hx
        · exact hc
      · rw [all_set ha.at_ hk]; exact o.nd
      · rw [all_set ha.at_ hk]; exact o.kr
    have two : ∀ (k : Int) (i : Nat), S.blocks[i]? = some b → rm b = true → (0 ≤ k ∧ k < S.keys) → (∀ x ∈ cpB S.blocks k i b, BkOk pages x) ∧ (cpB S.blocks k i b).length = S.blocks.length ∧ (allKeys (cpB S.blocks k i b)).Nodup ∧ ∀ j ∈ allKeys (cpB S.blocks k i b), 0 ≤ j ∧ j < S.keys := by
      intro k i hb hr hk
      have hp := cp_keys k hb ob hr
      refine ⟨fun x hx => ?_, by simp [cpB], ?_, fun j hj => ?_⟩
      · rcases List.mem_or_eq_of_mem_set hx with hx | rfl
        · obtain ⟨y, hy, rfl⟩ := List.mem_map.mp hx
          exact bk_age (o.bk y hy) k
        · exact bk_fill (bk_age ob k) (by rw [rm_age]; exact hr) (fun z => by cases z)
      · refine hp.nodup_iff.mpr (List.nodup_cons.mpr ⟨fun z => ?_, o.nd.filter _⟩)
        have := (List.mem_filter.mp z).2
        simp at this
      · rcases List.mem_cons.mp (hp.mem_iff.mp hj) with rfl | hj
        · exact hk
        · exact o.kr j (List.mem_filter.mp hj).1
    cases a with
    | er i =>
      have he := ha.era i rfl
      have hk : ∀ x, x = .free ∨ x = .old → keysOf (eraB b x).2 = keysOf b.2 := fun x hx => by
        rw [keys_none (er_left he).2.2]
        exact keys_rep hx
      cases r with
      | bad => exact one _ (bk_bad ob) (keys_bad _)
      | cut => exact one _ (bk_era ob he (.inr rfl)) (hk _ (.inr rfl))
      | done => exact one _ (bk_era ob he (.inl rfl)) (hk _ (.inl rfl))
      | late => exact one _ (bk_era ob he (.inl rfl)) (hk _ (.inl rfl))
    | wr i =>
      have hrm := ha.room fun j z => by cases z
      have h2 := two d i ha.at_ hrm hdd
      have e : S.due.getD 0 = d := by rw [hd]; rfl
      cases r with
      | bad => exact one _ (bk_bad ob) (keys_bad _)
      | cut => exact one _ (bk_fill ob hrm fun z => by cases z) (keys_fill_old _)
      | done => show (∀ c ∈ cpB S.blocks (S.due.getD 0) i b, BkOk pages c) ∧ _; rw [e]; simp only [behB, e]; exact h2
      | late => show (∀ c ∈ cpB S.blocks (S.due.getD 0) i b, BkOk pages c) ∧ _; rw [e]; simp only [behB, e]; exact h2
    | cp k i =>
      have hrm := ha.room fun j z => by cases z
      have h2 := two k i ha.at_ hrm (o.kr k (ha.key k i rfl))
      cases r with
      | bad => exact one _ (bk_bad ob) (keys_bad _)
      | cut => exact one _ (bk_fill ob hrm fun z => by cases z) (keys_fill_old _)
      | done => exact h2
      | late => exact h2
  obtain ⟨m1, m2, m3, m4⟩ := main
  have hf := o.f
  have hc := o.c
  cases r with
  | bad =>
    have hr' : 0 < S.fails := hr
    exact ⟨o.k1, o.k2, by show 1 ≤ (behB S a .bad b).length; rw [m2]; exact o.b1, by show (behB S a .bad b).length ≤ 9; rw [m2]; exact o.b2, o.p1, o.p2, m1, m3, m4, by show 0 ≤ S.fails - 1 ∧ S.fails - 1 ≤ 9; omega, hc, o.d⟩
  | done =>
    refine ⟨o.k1, o.k2, by show 1 ≤ (behB S a .done b).length; rw [m2]; exact o.b1, by show (behB S a .done b).length ≤ 9; rw [m2]; exact o.b2, o.p1, o.p2, m1, m3, m4, hf, hc, fun k hk => ?_⟩
    cases a with
    | wr i => cases hk
    | _ => exact o.d k hk
  | cut =>
    have hr' : 0 < S.cuts := hr
    exact ⟨o.k1, o.k2, by show 1 ≤ (behB S a .cut b).length; rw [m2]; exact o.b1, by show (behB S a .cut b).length ≤ 9; rw [m2]; exact o.b2, o.p1, o.p2, m1, m3, m4, hf, by show 0 ≤ S.cuts - 1 ∧ S.cuts - 1 ≤ 9; omega, fun k hk => by cases hk⟩
  | late =>
    have hr' : 0 < S.cuts := hr
    exact ⟨o.k1, o.k2, by show 1 ≤ (behB S a .late b).length; rw [m2]; exact o.b1, by show (behB S a .late b).length ≤ 9; rw [m2]; exact o.b2, o.p1, o.p2, m1, m3, m4, hf, by show 0 ≤ S.cuts - 1 ∧ S.cuts - 1 ≤ 9; omega, fun k hk => by cases hk⟩
end Sh.k09

set_option linter.all false
set_option maxRecDepth 100000
namespace Sh.k09
open PySem L2 PyProof.Rows Sh
theorem rooms_mem : ∀ {k i : Nat} {bs : List (Lf × List Pg)}, i ∈ roomsL k bs → ∃ j b, i = k + j ∧ bs[j]? = some b ∧ rm b = true
  | k, i, [], h => by cases h
  | k, i, b :: bs, h => by
    unfold roomsL at h
    split at h
    · rename_i hb
      rcases List.mem_cons.mp h with rfl | h
      · exact ⟨0, b, rfl, rfl, hb⟩
      · obtain ⟨j, c, h1, h2, h3⟩ := rooms_mem h
        exact ⟨j + 1, c, by omega, by simpa using h2, h3⟩
    · obtain ⟨j, c, h1, h2, h3⟩ := rooms_mem h
      exact ⟨j + 1, c, by omega, by simpa using h2, h3⟩
theorem ers_mem : ∀ {k : Nat} {bs : List (Lf × List Pg)} {d : D}, d ∈ ersL k bs → ∃ j b, d = erD (k + j) ∧ bs[j]? = some b ∧ er b = true
  | k, [], d, h => by cases h
  | k, b :: bs, d, h => by
    unfold ersL at h
    split at h
    · rename_i hb
      rcases List.mem_cons.mp h with rfl | h
      · exact ⟨0, b, rfl, rfl, hb⟩
      · obtain ⟨j, c, h1, h2, h3⟩ := ers_mem h
        exact ⟨j + 1, c, by rw [h1]; congr 1; omega, by simpa using h2, h3⟩
    · obtain ⟨j, c, h1, h2, h3⟩ := ers_mem h
      exact ⟨j + 1, c, by rw [h1]; congr 1; omega, by simpa using h2, h3⟩
theorem plF_mem' {L : List (Int × Nat × Nat)} {k : Int} {x : Nat × Nat} (h : plF L k = some x) : k ∈ L.map (·.1) := by
  unfold plF at h
  obtain ⟨t, h1, h2⟩ := Option.map_eq_some_iff.mp h
  have h3 := List.find?_some h1
  have h4 := List.mem_of_find?_eq_some h1
  exact List.mem_map.mpr ⟨t, h4, by simpa using h3⟩
theorem cps_mem (S : Sd) : ∀ {j k : Nat} {d : D}, d ∈ cpsL S j k → ∃ (key : Int) (b : Nat), d = cpD key b ∧ key ∈ allKeys S.blocks ∧ b ∈ roomsL 0 S.blocks
  | 0, k, d, h => by cases h
  | j + 1, k, d, h => by
    unfold cpsL at h
    rcases List.mem_append.mp h with h | h
    · cases hp : plF (plB 0 S.blocks) (k : Nat) with
      | none => rw [hp] at h; cases h
      | some x =>
        rw [hp] at h
        obtain ⟨b, hb, rfl⟩ := List.mem_map.mp (show d ∈ ((roomsL 0 S.blocks).filter _).map (cpD (k : Nat)) from h)
        refine ⟨(k : Nat), b, rfl, ?_, (List.mem_filter.mp hb).1⟩
        have := plF_mem' hp
        rw [plB_keys] at this
        exact this
    · exact cps_mem S h
theorem act_of {S : Sd} {d : D} (h : d ∈ actsD S) : ∃ a b, d = acD a ∧ AcOk S a b := by
  unfold actsD at h
  cases hd : S.due with
  | none => rw [hd] at h; cases h
  | some k =>
    rw [hd] at h
    rcases List.mem_append.mp h with h | h
    · rcases List.mem_append.mp h with h | h
      · obtain ⟨i, hi, rfl⟩ := List.mem_map.mp h
        obtain ⟨j, b, h1, h2, h3⟩ := rooms_mem hi
        rw [Nat.zero_add] at h1
        subst h1
        exact ⟨.wr i, b, rfl, h2, ⟨k, hd⟩, fun _ => h3, fun _ z => (by cases z), fun _ _ z => (by cases z)⟩
      · obtain ⟨key, i, rfl, h1, hi⟩ := cps_mem S h
        obtain ⟨j, b, h1', h2, h3⟩ := rooms_mem hi
        rw [Nat.zero_add] at h1'
        subst h1'
        exact ⟨.cp key i, b, rfl, h2, ⟨k, hd⟩, fun _ => h3, fun _ z => (by cases z), fun _ _ z => (by cases z; exact h1)⟩
    · obtain ⟨j, b, rfl, h2, h3⟩ := ers_mem h
      refine ⟨.er (0 + j), b, rfl, by rw [show (Ac.er (0 + j)).at = j from Nat.zero_add j]; exact h2, ⟨k, hd⟩, fun z => absurd rfl (z _), fun _ _ => h3, fun _ _ z => (by cases z)⟩
theorem list_of {P : Ac → Prop} : ∀ (l : List D), (∀ d ∈ l, ∃ a, d = acD a ∧ P a) → ∃ acs : List Ac, l = acs.map acD ∧ ∀ a ∈ acs, P a
  | [], _ => ⟨[], rfl, fun _ h => by cases h⟩
  | d :: l, h => by
    obtain ⟨a, rfl, ha⟩ := h d List.mem_cons_self
    obtain ⟨acs, h1, h2⟩ := list_of l fun x hx => h x (List.mem_cons_of_mem _ hx)
    exact ⟨a :: acs, by rw [h1]; rfl, fun x hx => by rcases List.mem_cons.mp hx with rfl | hx; exact ha; exact h2 x hx⟩
theorem acts_list (S : Sd) : ∃ acs : List Ac, actsD S = acs.map acD ∧ ∀ a ∈ acs, ∃ b, AcOk S a b :=
  list_of _ fun d hd => by
    obtain ⟨a, b, h1, h2⟩ := act_of hd
    exact ⟨a, h1, b, h2⟩
theorem ext_app {h h' : Hm} (hl : h.length ≤ h'.length) (k : ∀ m, m < h.length → h'[m]? = h[m]?) : h' = h ++ h'.drop h.length := by
  apply List.ext_getElem?
  intro m
  by_cases hm : m < h.length
  · rw [List.getElem?_append_left hm, k m hm]
  · rw [List.getElem?_append_right (by omega), List.getElem?_drop]
    congr 1
    omega
theorem NewL.app {r : RD} {h : Hm} {xs : List D} (x : NewL r h xs) : ∃ (n : Nat) (t : Hm), r = .ok (.ref n) (h ++ t) ∧ (h ++ t)[n]? = some (.lst xs) ∧ h.length ≤ n := by
  obtain ⟨n, h', h1, h2, h3, h4, h5⟩ := x.ex
  have e := ext_app h4 h5
  exact ⟨n, h'.drop h.length, by rw [← e]; exact h1, by rw [← e]; exact h2, h3⟩
theorem old {g t : Hm} {n : Nat} {o : O} (e : g[n]? = some o) : (g ++ t)[n]? = some o := by rw [List.getElem?_append_left (lt_of_get e)]; exact e
/-! is_act -/
def acP : Ac → PyData
  | .wr b => .tuple [.str "write", .int b] | .cp k b => .tuple [.str "copy", .int k, .int b] | .er b => .tuple [.str "erase", .int b]
theorem toPy_ac (n : Nat) (h : Hm) (a : Ac) : toPy (n + 1) h (acD a) = some (acP a) := by cases a <;> cases n <;> rfl
theorem mapO_acs (n : Nat) (h : Hm) : ∀ acs : List Ac, mapO (toPy (n + 1) h) (acs.map acD) = some (acs.map acP)
  | [] => rfl
  | a :: acs => by simp only [List.map_cons, mapO, toPy_ac, mapO_acs n h acs]
theorem toPy_acs {n : Nat} {h : Hm} {acs : List Ac} (e : h[n]? = some (.lst (acs.map acD))) : toPy 20 h (.ref n) = some (.list (acs.map acP)) := by
  show (match h[n]? with
    | some (.lst ds) => (mapO (toPy 19 h) ds).map PyData.list
    | some (.scr ds) => (mapO (toPy 19 h) ds).map PyData.list
    | _ => none) = _
  rw [e]
  dsimp only
  rw [mapO_acs]
  rfl
theorem lay_ac (a : Ac) : PyData.canLay0 (acP a) = true := by
  have h1 : PyData.canLay0 (.str "write") = true := by decide +kernel
  have h2 : PyData.canLay0 (.str "copy") = true := by decide +kernel
  have h3 : PyData.canLay0 (.str "erase") = true := by decide +kernel
  cases a with
  | wr b => show (PyData.canLay0 (.str "write") && (PyData.canLay0 (.int b) && true)) = true; rw [h1]; rfl
  | cp k b => show (PyData.canLay0 (.str "copy") && (PyData.canLay0 (.int k) && (PyData.canLay0 (.int b) && true))) = true; rw [h2]; rfl
  | er b => show (PyData.canLay0 (.str "erase") && (PyData.canLay0 (.int b) && true)) = true; rw [h3]; rfl
theorem dep_ac (a : Ac) : PyData.depth (acP a) = 1 := by cases a <;> rfl
theorem lay_acs : ∀ acs : List Ac, PyData.canLayAll0 (acs.map acP) = true
  | [] => rfl
  | a :: acs => by rw [List.map_cons, PyData.canLayAll0, lay_acs acs, lay_ac, Bool.and_true]
theorem dep_acs : ∀ acs : List Ac, PyData.depthAll (acs.map acP) ≤ 1
  | [] => by simp [PyData.depthAll]
  | a :: acs => by
    have := dep_acs acs
    rw [List.map_cons, PyData.depthAll, dep_ac]
    omega
theorem shaped_acs (acs : List Ac) : SeqAt.shaped (.list (acs.map acP)) = true := by
  have e1 : PyData.canLay0 (.list (acs.map acP)) = true := lay_acs acs
  have e2 : PyData.depth (.list (acs.map acP)) ≤ 64 := by
    show PyData.depthAll (acs.map acP) + 1 ≤ 64
    have := dep_acs acs
    omega
  simp only [SeqAt.shaped, e1, Bool.true_and, decide_eq_true_eq]
  exact e2
theorem shaped_ac (a : Ac) : SeqAt.shaped (acP a) = true := by
  simp only [SeqAt.shaped, lay_ac, dep_ac]
  decide
theorem eqv_ac (a : Ac) : PyData.eqv (acP a) (acP a) = true := by
  cases a <;> simp [acP, PyData.eqv, PyData.eqvAll]
theorem in_acs {n : Nat} {h : Hm} {acs : List Ac} {a : Ac} (e : h[n]? = some (.lst (acs.map acD))) (hm : a ∈ acs) : dIn (acD a) (.ref n) h = .ok (.bl true) h := by
  have h1 := toPy_ac 19 h a
  have h2 := toPy_acs e
  have h3 : SeqAt.shaped (acP a) = true ∧ SeqAt.shaped (.list (acs.map acP)) = true := ⟨shaped_ac a, shaped_acs acs⟩
  have e : inB h (acD a) (.ref n) = some true := by
    unfold inB
    simp only [h1, h2]
    rw [if_pos h3]
    congr 1
    exact List.any_eq_true.mpr ⟨acP a, List.mem_map_of_mem hm, eqv_ac a⟩
  simp only [dIn, e]
def acL : Ac → List D
  | .wr b => [.str "write", .int b] | .cp k b => [.str "copy", .int k, .int b] | .er b => [.str "erase", .int b]
theorem acD_eq (a : Ac) : acD a = .tup (acL a) := by cases a <;> rfl
/-! replies -/
def repsD (f c : Int) : List D := [.str "done"] ++ ((if 0 < f then [.str "bad"] else []) ++ if 0 < c then [.str "cut", .str "late"] else [])
theorem x_fails {S : Sd} {h : Hm} {p : Nat} (hp : h[p]? = some (stO S)) : m_Stand_fails [.ref p] h = .ok (.int S.fails) h := by
  rw [m_Stand_fails, x_run]
  show ((gRet _) [some (.ref p)] h).out = _
  have j : dIx S.enc (.int 2) h = .ok (.int S.fails) h := ix_tup (k := 2) rfl
  have f : eFld "Stand" "_shape" (eVar 0) [some (D.ref p)] h = .ok S.enc h := fld_ok rfl hp
  simp only [x_ret, x_bin, f, RD.bind_ok, x_c, j, RD.st_ok, out_rt]
theorem x_cuts {S : Sd} {h : Hm} {p : Nat} (hp : h[p]? = some (stO S)) : m_Stand_cuts [.ref p] h = .ok (.int S.cuts) h := by
  rw [m_Stand_cuts, x_run]
  show ((gRet _) [some (.ref p)] h).out = _
  have j : dIx S.enc (.int 3) h = .ok (.int S.cuts) h := ix_tup (k := 3) rfl
  have f : eFld "Stand" "_shape" (eVar 0) [some (D.ref p)] h = .ok S.enc h := fld_ok rfl hp
  simp only [x_ret, x_bin, f, RD.bind_ok, x_c, j, RD.st_ok, out_rt]
def letF (bf bc : Bool) : Rp → Bool
  | .done => true
  | .bad => bf
  | _ => bc
def letB (S : Sd) (r : Rp) : Bool := letF (decide (0 < S.fails)) (decide (0 < S.cuts)) r
def repsP (bf bc : Bool) : List PyData := [.str "done"] ++ ((if bf = true then [.str "bad"] else []) ++ if bc = true then [.str "cut", .str "late"] else [])
theorem reps_dec : ∀ (bf bc : Bool) (r : Rp), SeqAt.shaped (.str r.s) = true ∧ SeqAt.shaped (.list (repsP bf bc)) = true ∧ ((repsP bf bc).any fun z => PyData.eqv z (.str r.s)) = letF bf bc r := by
  intro bf bc r
  cases bf <;> cases bc <;> cases r <;> decide +kernel
theorem notin_reps {f c : Int} {r : Rp} {n : Nat} {h : Hm} (e : h[n]? = some (.lst (repsD f c))) : dNotIn (.str r.s) (.ref n) h = .ok (.bl (!(letF (decide (0 < f)) (decide (0 < c)) r))) h := by
  have g : ∀ (k : Nat) (h : Hm) (x : Str), toPy k h (.str x) = some (.str x) := fun k h x => by cases k <;> rfl
  have h1 : toPy 20 h (.str r.s) = some (.str r.s) := g _ _ _
  have h2 : toPy 20 h (.ref n) = some (.list (repsP (decide (0 < f)) (decide (0 < c)))) := by
    show (match h[n]? with
      | some (.lst ds) => (mapO (toPy 19 h) ds).map PyData.list
      | some (.scr ds) => (mapO (toPy 19 h) ds).map PyData.list
      | _ => none) = _
    rw [e]
    dsimp only
    unfold repsD repsP
    by_cases hf : 0 < f <;> by_cases hc : 0 < c <;> simp [hf, hc, mapO, g]
  obtain ⟨d1, d2, d3⟩ := reps_dec (decide (0 < f)) (decide (0 < c)) r
  have inb : inB h (.str r.s) (.ref n) = some (letF (decide (0 < f)) (decide (0 < c)) r) := by
    unfold inB
    simp only [h1, h2]
    rw [if_pos ⟨d1, d2⟩, d3]
  simp only [dNotIn, inb]
end Sh.k09

set_option linter.all false
set_option maxRecDepth 100000
namespace Sh.k09
open PySem L2 PyProof.Rows Sh
theorem rs_eq (r q : Rp) : decide (r.s = q.s) = decide (r = q) := by cases r <;> cases q <;> decide +kernel
theorem rp_test {s : DS} {h : Hm} {i : Nat} {r : Rp} (q : Rp) (hs : s[i]? = some (some (.str r.s))) : eBin dEq (eVar i) (eC (.str q.s)) s h = .ok (.bl (decide (r = q))) h := by
  simp only [x_bin, x_var, x_c, hs, ofO_some, RD.bind_ok, q_str, rs_eq]
theorem eq_key {p : Pg} {k : Int} {h : Hm} : dEq (pD p) (.int k) h = .ok (.bl (decide (p = .key k))) h := by cases p <;> simp [pD]
theorem of_ok {r : RD} {h : Hm} {v : D} (x : OK r fun d h' => d = v ∧ ∃ t, h' = h ++ t) : ∃ t, r = .ok v (h ++ t) := by
  obtain ⟨d, h', e, rfl, t, rfl⟩ := x.get
  exact ⟨t, e⟩
theorem elc_map {fi : FI} {gt : GT} {ck : Option (Nat × List D)} {s : DS} {h : Hm} {ft fe : FE} {own : List Nat} {val : D → D} {xs : List D} (ef : fi s h = .ok xs ck h) (hck : ∀ u : Hm, chkB ck (h ++ u) = true)
    (k : ∀ x ∈ xs, ∀ u : Hm, ∃ (s1 : DS) (t' : Hm), gt x (wipeD s own) (h ++ u) = .nx s1 (h ++ u) ∧ ft s1 (h ++ u) = .ok (.bl true) (h ++ u) ∧ fe s1 (h ++ u) = .ok (val x) (h ++ u ++ t')) (hl : xs.length < 1000000) :
    ∃ t2, eLc fi gt ft fe own s h = .ok (.ref h.length) (h ++ .lst (xs.map val) :: t2) := by
  obtain ⟨t2, r⟩ := elc_ok (val := val) (tt := fun _ => true) ef hck (fun x hx u => by
    obtain ⟨s1, t', e1, e2, e3⟩ := k x hx u
    exact ⟨s1, t', e1, e2, fun _ => e3⟩) hl
  exact ⟨t2, by rw [r, List.filter_eq_self.mpr (fun _ _ => rfl)]⟩
theorem tup_last {h t : Hm} {xs : List D} : bTuple [.ref h.length] (h ++ .lst xs :: t) = .ok (.tup xs) (h ++ .lst xs :: t) := tup_ref (by simp)
theorem set_cutD {α : Type} (l : List α) (b : Nat) (y : α) (hb : b < l.length) : l.take b ++ [y] ++ l.drop (b + 1) = l.set b y := by
  rw [List.set_eq_take_append_cons_drop, if_pos hb, List.append_assoc]
  rfl
theorem slT_to {h : Hm} {k : Nat} {xs : List D} : dSl (.tup xs) none (some (k : Int)) h = .ok (.tup (xs.take k)) h := by
  rw [dSl_tup, ← List.take_eq_take_min]
theorem slT_from {h : Hm} {k : Nat} {i : Int} {xs : List D} (hi : i = (k : Int)) : dSl (.tup xs) (some i) none h = .ok (.tup (xs.drop k)) h := by
  subst hi
  simp only [dSl, cutD, HT.sIx_none, HT.sIx_nat]
  by_cases hk : k ≤ xs.length
  · rw [Nat.min_eq_left hk, List.take_of_length_le (by rw [List.length_drop]; exact Nat.le_refl _)]
  · rw [Nat.min_eq_right (by omega), List.drop_of_length_le (Nat.le_refl _), List.drop_of_length_le (by omega)]
    simp
theorem addT {h : Hm} {xs ys : List D} (hl : xs.length + ys.length ≤ 1000000) : dAdd (.tup xs) (.tup ys) h = .ok (.tup (xs ++ ys)) h := by
  have : xs.length + ys.length ≤ big := hl
  simp only [dAdd, this, if_true]
theorem x_slT {s : DS} {h : Hm} {fa fb : FE} : eSl fa none (some fb) s h = (fa s h).bind fun x h1 => (fb s h1).bind fun d h2 => match d with
  | .int i => dSl x none (some i) h2
  | _ => .bad := by rfl
theorem x_slF {s : DS} {h : Hm} {fa fb : FE} : eSl fa (some fb) none s h = (fa s h).bind fun x h1 => (fb s h1).bind fun d h2 => match d with
  | .int i => dSl x (some i) none h2
  | _ => .bad := by rfl
theorem nxi {s : DS} {h : Hm} {N : DS → Hm → Prop} {T : D → Hm → Prop} (x : N s h) : NX (.nx s h) N T := nx_next (s := s) (h := h) x
theorem aged_ok {s : DS} {h : Hm} {ps : List Pg} {k : Int} {it sl : FE} {v : Nat} (hl : ps.length ≤ 6) (hi : it s h = .ok (.tup (ps.map pD)) h) (hk : ∀ (d : D) (u : Hm), sl ((wipeD s [v]).set v (some d)) (h ++ u) = .ok (.int k) (h ++ u)) (hv : v < s.length) :
    ∃ t2, eLc (fiSeq it) (tName v) (eC (.bl true)) (eIf (eBin dEq (eVar v) sl) (eC (.str "old")) (eVar v)) [v] s h = .ok (.ref h.length) (h ++ .lst ((ps.map (ageK k)).map pD) :: t2) := by
  obtain ⟨t2, r⟩ := elc_map (fi := fiSeq it) (gt := tName v) (ft := eC (.bl true)) (fe := eIf (eBin dEq (eVar v) sl) (eC (.str "old")) (eVar v)) (own := [v]) (s := s) (h := h) (ck := none) (xs := ps.map pD) (val := fun x => if x = .int k then .str "old" else x)
    (fi_tup hi) (fun _ => rfl) (fun x hx u => by
      obtain ⟨p, hp, rfl⟩ := List.mem_map.mp hx
      refine ⟨(wipeD s [v]).set v (some (pD p)), [], rfl, rfl, ?_⟩
      have hg : ((wipeD s [v]).set v (some (pD p)))[v]? = some (some (pD p)) := List.getElem?_set_self (by simpa [wipeD] using hv)
      rw [List.append_nil]
      simp only [x_eif, x_bin, x_var, x_c, hg, hk, ofO_some, RD.bind_ok, eq_key, tb_ok]
      cases p with
      | key j => by_cases hj : j = k <;> simp [pD, hj]
      | free => simp [pD]
      | old => simp [pD]) (by simp; omega)
  refine ⟨t2, ?_⟩
  rw [r]
  congr 4
  rw [List.map_map, List.map_map]
  apply List.map_congr_left
  intro p _
  cases p with
  | key j => by_cases hj : j = k <;> simp [pD, ageK, hj]
  | free => simp [pD, ageK]
  | old => simp [pD, ageK]
def ageD (k : Int) : D → D
  | .tup [l, .tup ps] => .tup [l, .tup (ps.map fun x => if x = .int k then .str "old" else x)]
  | d => d
theorem ageD_bD (k : Int) (c : Lf × List Pg) : ageD k (bD c) = bD (ageB k c) := by
  show D.tup [lD c.1, .tup ((c.2.map pD).map fun x => if x = .int k then .str "old" else x)] = D.tup [lD c.1, .tup ((c.2.map (ageK k)).map pD)]
  congr 4
  rw [List.map_map, List.map_map]
  apply List.map_congr_left
  intro p _
  cases p with
  | key j => by_cases hj : j = k <;> simp [pD, ageK, hj]
  | free => simp [pD, ageK]
  | old => simp [pD, ageK]
theorem ageD_all (k : Int) (bs : List (Lf × List Pg)) : (bs.map bD).map (ageD k) = (bs.map (ageB k)).map bD := by
  rw [List.map_map, List.map_map]
  exact List.map_congr_left fun c _ => ageD_bD k c
theorem ac_at (a : Ac) (h : Hm) : dIx (acD a) (.int (-1)) h = .ok (.int (a.at : Int)) h := by cases a <;> rfl
def acW : Ac → Str
  | .wr _ => "write" | .cp _ _ => "copy" | .er _ => "erase"
theorem ac_word (a : Ac) (h : Hm) : dIx (acD a) (.int 0) h = .ok (.str (acW a)) h := by cases a <;> rfl
end Sh.k09

set_option linter.all false
set_option maxRecDepth 100000
namespace Sh.k09
open PySem L2 PyProof.Rows Sh
def isWr : Ac → Bool
  | .wr _ => true
  | _ => false
theorem wr_word (a : Ac) : decide (acW a = "write") = isWr a := by
  have h1 : decide (("write" : Str) = "write") = true := by decide +kernel
  have h2 : decide (("copy" : Str) = "write") = false := by decide +kernel
  have h3 : decide (("erase" : Str) = "write") = false := by decide +kernel
  cases a with
  | wr b => exact h1
  | cp k b => exact h2
  | er b => exact h3
theorem rp_testN {s : DS} {h : Hm} {i : Nat} {r : Rp} (q : Rp) (hs : s[i]? = some (some (.str r.s))) : eBin dNe (eVar i) (eC (.str q.s)) s h = .ok (.bl (decide (¬ r = q))) h := by
  simp only [x_bin, x_var, x_c, hs, ofO_some, RD.bind_ok, nq_str, rs_eq]
  simp
theorem rp_ok {S : Sd} {r : Rp} (h : letB S r = true) : RpOk S r := by
  cases r with
  | done => trivial
  | bad =>
    have h' : 0 < S.fails := of_decide_eq_true (show decide (0 < S.fails) = true from h)
    exact h'
  | cut =>
    have h' : 0 < S.cuts := of_decide_eq_true (show decide (0 < S.cuts) = true from h)
    exact h'
  | late =>
    have h' : 0 < S.cuts := of_decide_eq_true (show decide (0 < S.cuts) = true from h)
    exact h'
section
variable {S : Sd} {pages : Nat} {a : Ac} {b : Lf × List Pg} {h : Hm} {p : Nat} {acs : List Ac}
theorem sub1 : subT [(("NoAct", "NoAct"), true), (("NoAct", "NoReply"), false), (("NoReply", "NoAct"), false), (("NoReply", "NoReply"), true)] "NoReply" "NoAct" = some false := by decide
theorem sub2 : subT [(("NoAct", "NoAct"), true), (("NoAct", "NoReply"), false), (("NoReply", "NoAct"), false), (("NoReply", "NoReply"), true)] "NoReply" "NoReply" = some true := by decide
end
end Sh.k09

set_option linter.all false
set_option maxRecDepth 100000
namespace Sh.k09
open PySem L2 PyProof.Rows Sh
theorem find_free {pages w : Nat} {b : Lf × List Pg} (hl : b.2.length = pages) (hw : w < pages) (e : b.2[w]? = some .free) (hf : ∀ i p, b.2[i]? = some p → (w ≤ i ↔ p = .free)) : (b.2.map pD).findIdx? (fun z => eqF z (.str "free")) = some w := by
  rw [List.findIdx?_eq_some_iff_getElem]
  have hwl : w < (b.2.map pD).length := by rw [List.length_map]; omega
  refine ⟨hwl, ?_, fun j hj => ?_⟩
  · obtain ⟨h1, h2⟩ := List.getElem?_eq_some_iff.mp e
    simp only [List.getElem_map, h2]
    rfl
  · have hjl : j < b.2.length := by omega
    have := hf j b.2[j] (List.getElem?_eq_getElem hjl)
    simp only [List.getElem_map, eqF_free]
    cases q : b.2[j] with
    | free =>
      have := this.mpr q
      omega
    | _ => simp [isFree]
theorem lidx_free {h : Hm} {n w : Nat} {ps : List Pg} (e : h[n]? = some (.lst (ps.map pD))) (fx : (ps.map pD).findIdx? (fun z => eqF z (.str "free")) = some w) {s : DS} {i : Nat} (hs : s[i]? = some (some (.ref n))) : eLm lIndex (eVar i) [eC (.str "free")] s h = .ok (.int (w : Int)) h := by
  have fl : flatD (.str "free") = true ∧ (ps.map pD).all flatD = true := ⟨rfl, pD_flat ps⟩
  simp only [x_lm, x_var, hs, ofO_some, RD.bind_ok, lmB_ref (gl := lIndex) e, evR_cons, evR_nil, x_c, lmC_ok (gl := lIndex) e, lIndex]
  rw [if_pos fl, fx]
theorem ac_last (a : Ac) {s : DS} {h : Hm} (hs : s[1]? = some (some (acD a))) : (eBin dIx (eVar 1) (eBin dSub (eArgs bLen [(eVar 1)]) (eC (.int 1)))) s h = .ok (.int (a.at : Int)) h := by
  simp only [x_bin, x_args, evR_cons, evR_nil, x_var, hs, ofO_some, RD.bind_ok]
  cases a <;> rfl
theorem set_mid {h t : Hm} {xs ys : List D} : (h ++ O.lst xs :: t).set h.length (.lst ys) = h ++ O.lst ys :: t := by
  rw [List.set_append_right _ _ (Nat.le_refl _), Nat.sub_self, List.set_cons_zero]
theorem get_mid {h t : Hm} {xs : List D} : (h ++ O.lst xs :: t)[h.length]? = some (.lst xs) := by simp
end Sh.k09

set_option linter.all false
namespace Sh.k09
open PySem L2 PyProof.Rows Sh
abbrev sm4 : FS := (gSeq (gFor (fiRg [(eBin dAdd (eC (.int 1)) (eBin dIx (eVar 4) (eC (.int 1))))]) (tName 8) (gSeq (gSet 9 (eArgs m__law_digits [(eArgs m__law_cell [(eVar 0), (eBin dAdd (eBin dAdd (eVar 1) (eC (.int 1))) (eVar 8))]), (eLst [(eC (.int 6)), (eC (.int 4)), (eC (.int 36)), (eC (.int 36))])]))
    (gSeq (gSet 10 (eArgs m__law_small_left [(eBin dIx (eVar 9) (eC (.int 0)))]))
    (gSeq (gSet 11 (eBin dMod (eArgs bInt [(eBin dIx (eVar 9) (eC (.int 1)))]) (eBin dAdd (eC (.int 2)) (eBin dIx (eVar 4) (eC (.int 2))))))
    (gSeq (gIf (eBin dIs (eVar 10) (eC .non)) (gSet 11 (eBin dAdd (eC (.int 1)) (eBin dIx (eVar 4) (eC (.int 2))))) gNext)
    (gDrop (eLm lAppend (eVar 7) [(eTup [(eVar 10), (eArgs m__law_pages [(eSl (eVar 9) (some (eC (.int 2))) none), (eVar 6), (eBin dAdd (eC (.int 1)) (eBin dIx (eVar 4) (eC (.int 2)))), (eVar 11)])])])))))))
    (gSeq (gSet 12 (eC .non))
    (gSeq (gIf (eBin (dCmp fun i j => decide (j ≤ i)) (eBin dIx (eVar 4) (eC (.int 5))) (eC (.int 2))) (gSet 12 (eBin dMod (eArgs bInt [(eBin dIx (eVar 4) (eC (.int 5)))]) (eVar 5))) gNext)
    (gRet (eTup [(eVar 5), (eArgs bTuple [(eVar 7)]), (eBin dIx (eVar 4) (eC (.int 3))), (eBin dIx (eVar 4) (eC (.int 4))), (eVar 12)])))))
abbrev smB : FS := (gSeq (gSet 9 (eArgs m__law_digits [(eArgs m__law_cell [(eVar 0), (eBin dAdd (eBin dAdd (eVar 1) (eC (.int 1))) (eVar 8))]), (eLst [(eC (.int 6)), (eC (.int 4)), (eC (.int 36)), (eC (.int 36))])]))
    (gSeq (gSet 10 (eArgs m__law_small_left [(eBin dIx (eVar 9) (eC (.int 0)))]))
    (gSeq (gSet 11 (eBin dMod (eArgs bInt [(eBin dIx (eVar 9) (eC (.int 1)))]) (eBin dAdd (eC (.int 2)) (eBin dIx (eVar 4) (eC (.int 2))))))
    (gSeq (gIf (eBin dIs (eVar 10) (eC .non)) (gSet 11 (eBin dAdd (eC (.int 1)) (eBin dIx (eVar 4) (eC (.int 2))))) gNext)
    (gDrop (eLm lAppend (eVar 7) [(eTup [(eVar 10), (eArgs m__law_pages [(eSl (eVar 9) (some (eC (.int 2))) none), (eVar 6), (eBin dAdd (eC (.int 1)) (eBin dIx (eVar 4) (eC (.int 2)))), (eVar 11)])])]))))))
abbrev smC : FS := (gSeq (gSet 10 (eArgs m__law_small_left [(eBin dIx (eVar 9) (eC (.int 0)))]))
    (gSeq (gSet 11 (eBin dMod (eArgs bInt [(eBin dIx (eVar 9) (eC (.int 1)))]) (eBin dAdd (eC (.int 2)) (eBin dIx (eVar 4) (eC (.int 2))))))
    (gSeq (gIf (eBin dIs (eVar 10) (eC .non)) (gSet 11 (eBin dAdd (eC (.int 1)) (eBin dIx (eVar 4) (eC (.int 2))))) gNext)
    (gDrop (eLm lAppend (eVar 7) [(eTup [(eVar 10), (eArgs m__law_pages [(eSl (eVar 9) (some (eC (.int 2))) none), (eVar 6), (eBin dAdd (eC (.int 1)) (eBin dIx (eVar 4) (eC (.int 2)))), (eVar 11)])])])))))
abbrev sm5 : FS := (gSeq (gSet 12 (eC .non))
    (gSeq (gIf (eBin (dCmp fun i j => decide (j ≤ i)) (eBin dIx (eVar 4) (eC (.int 5))) (eC (.int 2))) (gSet 12 (eBin dMod (eArgs bInt [(eBin dIx (eVar 4) (eC (.int 5)))]) (eVar 5))) gNext)
    (gRet (eTup [(eVar 5), (eArgs bTuple [(eVar 7)]), (eBin dIx (eVar 4) (eC (.int 3))), (eBin dIx (eVar 4) (eC (.int 4))), (eVar 12)]))))
end Sh.k09

set_option linter.all false
set_option maxRecDepth 100000
namespace Sh.k09
open PySem L2 PyProof.Rows Sh
theorem ok_append {fo e : FE} {s : DS} {h : Hm} {Q : D → Hm → Prop} (x : OK (fo s h) fun d h1 => ∃ (n : Nat) (xs : List D), d = .ref n ∧ h1[n]? = some (.lst xs) ∧ OK (e s h1) fun v h2 => ∃ ys : List D, h2[n]? = some (.lst ys) ∧ ys.length < 1000000 ∧ Q .non (h2.set n (.lst (ys ++ [v])))) :
    OK (eLm lAppend fo [e] s h) Q := by
  obtain ⟨d, h1, e1, n, xs, rfl, e2, q⟩ := x.get
  obtain ⟨v, h2, e3, ys, e4, hl, q⟩ := q.get
  rw [x_lm, e1, RD.bind_ok, lmB_ref (gl := lAppend) e2, evR_cons, e3, RD.bind_ok, evR_nil, lmC_ok (gl := lAppend) e4, app_ok hl, ok_ok]
  exact q
theorem sl_fromL {h : Hm} {n k : Nat} {i : Int} {xs : List D} (e : h[n]? = some (.lst xs)) (hi : i = (k : Int)) : dSl (.ref n) (some i) none h = .ok (.ref h.length) (h ++ [.lst (xs.drop k)]) := by
  subst hi
  simp only [dSl, e, cutD, HT.sIx_none, HT.sIx_nat]
  by_cases hk : k ≤ xs.length
  · rw [Nat.min_eq_left hk, List.take_of_length_le (by rw [List.length_drop]; exact Nat.le_refl _)]
  · rw [Nat.min_eq_right (by omega), List.drop_of_length_le (Nat.le_refl _), List.drop_of_length_le (by omega)]
    simp
theorem x_smallleft (e : Int) (h0 : 0 ≤ e ∧ e < 6) (h : Hm) : ∃ l o, m__law_small_left [.int e] h = .ok (lD l) (h ++ [o]) ∧ lfOk l := by
  have run : ∀ (k : Nat) (l : Lf), e = (k : Int) → ([D.int 0, .int 1, .int 2, .str "ever", .non, .int 1] : List D)[k]? = some (lD l) → m__law_small_left [.int e] h = .ok (lD l) (h ++ [.lst [D.int 0, .int 1, .int 2, .str "ever", .non, .int 1]]) := by
    intro k l he hk
    subst he
    rw [m__law_small_left, x_run]
    show ((gRet _) [some (.int (k : Int))] h).out = _
    have ei : dIx (.ref h.length) (.int (k : Int)) (h ++ [.lst [D.int 0, .int 1, .int 2, .str "ever", .non, .int 1]]) = .ok (lD l) (h ++ [.lst [D.int 0, .int 1, .int 2, .str "ever", .non, .int 1]]) := ix_ref get_last hk
    simp only [x_ret, x_bin, x_lst, evR_cons, evR_nil, x_c, RD.bind_ok, x_var, List.getElem?_cons_zero, ofO_some, ei, RD.st_ok, out_rt]
  have hc : e = 0 ∨ e = 1 ∨ e = 2 ∨ e = 3 ∨ e = 4 ∨ e = 5 := by omega
  rcases hc with h1 | h1 | h1 | h1 | h1 | h1
  · exact ⟨.num 0, _, run 0 _ h1 rfl, by show (0 : Int) ≤ 0 ∧ (0 : Int) ≤ 99; omega⟩
  · exact ⟨.num 1, _, run 1 _ h1 rfl, by show (0 : Int) ≤ 1 ∧ (1 : Int) ≤ 99; omega⟩
  · exact ⟨.num 2, _, run 2 _ h1 rfl, by show (0 : Int) ≤ 2 ∧ (2 : Int) ≤ 99; omega⟩
  · exact ⟨.ever, _, run 3 _ h1 rfl, trivial⟩
  · exact ⟨.bad, _, run 4 _ h1 rfl, trivial⟩
  · exact ⟨.num 1, _, run 5 _ h1 rfl, by show (0 : Int) ≤ 1 ∧ (1 : Int) ≤ 99; omega⟩
theorem allKeys_snoc (acc : List (Lf × List Pg)) (b : Lf × List Pg) : allKeys (acc ++ [b]) = allKeys acc ++ keysOf b.2 := by simp [allKeys]
section
variable {ns : List Int} {P : Nat}
def SmI (ns : List Int) (k0 k1 k2 k3 k4 k5 : Int) (nh nr nw P : Nat) (rs0 : List Int) (j : Nat) (s : DS) (g : Hm) : Prop :=
  ∃ (acc : List (Lf × List Pg)) (rs : List Int) (x8 x9 x10 x11 : Option D), s = [some (.scl (ns.map D.int)), some (.int 1), some (.int 2), some (.int 2), some (.ref nh), some (.int (1 + k0)), some (.ref nr), some (.ref nw), x8, x9, x10, x11, none] ∧
    g[nh]? = some (.lst (([k0, k1, k2, k3, k4, k5] : List Int).map D.int)) ∧ g[nr]? = some (.lst (rs.map D.int)) ∧ g[nw]? = some (.lst (acc.map bD)) ∧ rs.length < 1000 ∧ acc.length = j ∧ (∀ b ∈ acc, BkOk P b) ∧ (allKeys acc ++ rs).Perm rs0
theorem sm_turn {k0 k1 k2 k3 k4 k5 : Int} {nh nr nw j : Nat} {rs0 : List Int} {s : DS} {g : Hm} {T : D → Hm → Prop} (n1 : nh ≠ nr) (n2 : nw ≠ nr) (n3 : nh ≠ nw) (hP : (P : Int) = 1 + k2) (hk2 : 0 ≤ k2 ∧ k2 < 2) (hj : j < 1000) (i : SmI ns k0 k1 k2 k3 k4 k5 nh nr nw P rs0 j s g) :
    NX (smB (s.set 8 (some (.int (j : Nat)))) g) (SmI ns k0 k1 k2 k3 k4 k5 nh nr nw P rs0 (j + 1)) T := by
  obtain ⟨acc, rs, x8, x9, x10, x11, rfl, eh, er, ew, hrl, hal, hbk, hpm⟩ := i
  simp only [List.set_cons_zero, List.set_cons_succ]
  obtain ⟨c, ec⟩ := x_cell ns (1 + 1 + (j : Int)) g (by omega)
  have hz : (g ++ [O.lst (([6, 4, 36, 36] : List Int).map D.int)])[g.length]? = some (.lst (([6, 4, 36, 36] : List Int).map D.int)) := get_last
  obtain ⟨ds, hD, ed⟩ := x_digits (g ++ [O.lst (([6, 4, 36, 36] : List Int).map D.int)]) g.length [6, 4, 36, 36] hz c (by intro z hz; simp at hz; omega) (by simp)
  have hdl := dig_len hD
  obtain ⟨e0, e1, e2, e3, rfl⟩ : ∃ e0 e1 e2 e3, ds = [e0, e1, e2, e3] := by
    match ds, hdl with
    | [e0, e1, e2, e3], _ => exact ⟨e0, e1, e2, e3, rfl⟩
  obtain ⟨d0, d1, d2, d3, _⟩ := hD
  refine nx_seq (nx_set ?_)
  have ed' : m__law_digits [.int c, .ref g.length] (g ++ [O.lst [.int 6, .int 4, .int 36, .int 36]]) = .ok (.ref (g ++ [O.lst [.int 6, .int 4, .int 36, .int 36]]).length) (g ++ [O.lst [.int 6, .int 4, .int 36, .int 36]] ++ [.lst (([e0, e1, e2, e3] : List Int).map D.int)]) := ed
  simp -implicitDefEqProofs only [ok_ok, ok_bind, ok_tb, bl_bl, x_bin, x_args, evR_cons, evR_nil, x_var, x_c, ofO_some, x_and, x_or, x_not, x_eif, x_chain, x_lst, x_tup, x_isi, List.getElem?_cons_zero, List.getElem?_cons_succ, List.set_cons_zero, List.set_cons_succ, o_cmp, o_sub, o_add, o_int, o_is_n, o_is_b, o_isN_n, o_isN_b, q_int, nq_int, ec, ed']
  generalize hnd : (g ++ [O.lst [.int 6, .int 4, .int 36, .int 36]]).length = nd
  have hndl : nd = g.length + 1 := by rw [← hnd]; simp
  obtain ⟨g1, hg1⟩ : ∃ g1 : Hm, g1 = g ++ [O.lst [.int 6, .int 4, .int 36, .int 36]] ++ [.lst (([e0, e1, e2, e3] : List Int).map D.int)] := ⟨_, rfl⟩
  have eD : g1[nd]? = some (.lst (([e0, e1, e2, e3] : List Int).map D.int)) := by rw [hg1, ← hnd]; exact get_last
  have o1 : ∀ {n : Nat} {o : O}, g[n]? = some o → g1[n]? = some o := fun e => by rw [hg1, List.append_assoc]; exact old e
  have hg1l : g1.length = g.length + 2 := by rw [hg1]; simp
  rw [← hg1]
  have ix : ∀ (h : Hm) (k : Nat) (v : Int), h[nd]? = some (.lst (([e0, e1, e2, e3] : List Int).map D.int)) → ([e0, e1, e2, e3] : List Int)[k]? = some v → dIx (.ref nd) (.int k) h = .ok (.int v) h := fun h k v a b => ix_ref a (by rw [List.getElem?_map, b]; rfl)
  have hx2 : ∀ (h : Hm), h[nh]? = some (.lst (([k0, k1, k2, k3, k4, k5] : List Int).map D.int)) → dIx (.ref nh) (.int 2) h = .ok (.int k2) h := fun h a => ix_ref (k := 2) a rfl
  refine nx_seq (nx_set ?_)
  obtain ⟨l, o, el, hlf⟩ := x_smallleft e0 ⟨d0.1, by omega⟩ g1
  have j0 : dIx (.ref nd) (.int 0) g1 = .ok (.int e0) g1 := ix g1 0 e0 eD rfl
  simp -implicitDefEqProofs only [ok_ok, ok_bind, ok_tb, bl_bl, x_bin, x_args, evR_cons, evR_nil, x_var, x_c, ofO_some, x_and, x_or, x_not, x_eif, x_chain, x_lst, x_tup, x_isi, List.getElem?_cons_zero, List.getElem?_cons_succ, List.set_cons_zero, List.set_cons_succ, o_cmp, o_sub, o_add, o_int, o_is_n, o_is_b, o_isN_n, o_isN_b, q_int, nq_int, j0, el]
  obtain ⟨g2, hg2⟩ : ∃ g2 : Hm, g2 = g1 ++ [o] := ⟨_, rfl⟩
  have o2 : ∀ {n : Nat} {o : O}, g1[n]? = some o → g2[n]? = some o := fun e => by rw [hg2]; exact old e
  rw [← hg2]
  have hg2l : g2.length = g.length + 3 := by rw [hg2]; simp [hg1l]
  refine nx_seq (nx_set ?_)
  have j1 : dIx (.ref nd) (.int 1) g2 = .ok (.int e1) g2 := ix g2 1 e1 (o2 eD) rfl
  simp -implicitDefEqProofs only [ok_ok, ok_bind, ok_tb, bl_bl, x_bin, x_args, evR_cons, evR_nil, x_var, x_c, ofO_some, x_and, x_or, x_not, x_eif, x_chain, x_lst, x_tup, x_isi, List.getElem?_cons_zero, List.getElem?_cons_succ, List.set_cons_zero, List.set_cons_succ, o_cmp, o_sub, o_add, o_int, o_is_n, o_is_b, o_isN_n, o_isN_b, q_int, nq_int, j1, hx2 g2 (o2 (o1 eh)), o_mod, if_pos (show (0 : Int) < 2 + k2 by omega)]
  have hW : 0 ≤ e1 % (2 + k2) ∧ e1 % (2 + k2) < 2 + k2 := ⟨Int.emod_nonneg _ (by omega), Int.emod_lt_of_pos _ (by omega)⟩
  generalize e1 % (2 + k2) = W0 at hW
  refine nx_seq (NX.mono (N := fun s h1 => ∃ W : Nat, W ≤ P ∧ (l = .bad → W = P) ∧ g2 = h1 ∧ s = [some (.scl (ns.map D.int)), some (.int 1), some (.int 2), some (.int 2), some (.ref nh), some (.int (1 + k0)), some (.ref nr), some (.ref nw), some (.int (j : Nat)), some (.ref nd), some (lD l), some (.int (W : Nat)), none]) (T := fun _ _ => False) ?_ ?_ (fun _ _ z => False.elim z))
  · refine nx_ifP (p := l = .bad) (h1 := g2) ?_ (fun hb => ?_) (fun hb => ?_)
    · simp [lD_non]
    · refine nx_set ?_
      simp -implicitDefEqProofs only [ok_ok, ok_bind, ok_tb, bl_bl, x_bin, x_args, evR_cons, evR_nil, x_var, x_c, ofO_some, x_and, x_or, x_not, x_eif, x_chain, x_lst, x_tup, x_isi, List.getElem?_cons_zero, List.getElem?_cons_succ, List.set_cons_zero, List.set_cons_succ, o_cmp, o_sub, o_add, o_int, o_is_n, o_is_b, o_isN_n, o_isN_b, q_int, nq_int, hx2 g2 (o2 (o1 eh))]
      exact ⟨P, Nat.le_refl _, fun _ => rfl, trivial, by rw [hP]⟩
    · obtain ⟨W, hWn⟩ := Int.eq_ofNat_of_zero_le hW.1
      refine nx_next ⟨W, by omega, fun z => absurd z hb, rfl, by rw [hWn]⟩
  · rintro _ _ ⟨W, hW1, hW2, rfl, rfl⟩
    have sl := sl_fromL (k := 2) (i := 2) (o2 eD) rfl
    have hdrop : (([e0, e1, e2, e3] : List Int).map D.int).drop 2 = ([e2, e3] : List Int).map D.int := rfl
    rw [hdrop] at sl
    have o3 : ∀ {n : Nat} {o : O}, g[n]? = some o → (g2 ++ [O.lst (([e2, e3] : List Int).map D.int)])[n]? = some o := fun e => old (o2 (o1 e))
    have lnr := lt_of_get er
    have lnw := lt_of_get ew
    have lnh := lt_of_get eh
    obtain ⟨ps, rs', p1, p2, p3, ep⟩ := x_pages (g2 ++ [O.lst (([e2, e3] : List Int).map D.int)]) g2.length nr [e2, e3] rs P W get_last (o3 er) (by omega) (by intro d hd; simp at hd; omega) hW1 (by simp; omega) (by omega) hrl
    refine nx_drop (ok_append ?_)
    simp -implicitDefEqProofs only [ok_ok, ok_bind, ok_tb, bl_bl, x_bin, x_args, evR_cons, evR_nil, x_var, x_c, ofO_some, x_and, x_or, x_not, x_eif, x_chain, x_lst, x_tup, x_isi, List.getElem?_cons_zero, List.getElem?_cons_succ, List.set_cons_zero, List.set_cons_succ, o_cmp, o_sub, o_add, o_int, o_is_n, o_is_b, o_isN_n, o_isN_b, q_int, nq_int]
    refine ⟨nw, _, rfl, o2 (o1 ew), ?_⟩
    have ep' : m__law_pages [.ref g2.length, .ref nr, .int (1 + k2), .int (W : Nat)] (g2 ++ [O.lst (([e2, e3] : List Int).map D.int)]) = .ok (.tup (ps.map pD)) ((g2 ++ [O.lst (([e2, e3] : List Int).map D.int)]).set nr (.lst (rs'.map D.int)) ++ [.lst (ps.map pD)]) := by rw [← hP]; exact ep
    simp -implicitDefEqProofs only [ok_ok, ok_bind, ok_tb, bl_bl, x_bin, x_args, evR_cons, evR_nil, x_var, x_c, ofO_some, x_and, x_or, x_not, x_eif, x_chain, x_lst, x_tup, x_isi, List.getElem?_cons_zero, List.getElem?_cons_succ, List.set_cons_zero, List.set_cons_succ, o_cmp, o_sub, o_add, o_int, o_is_n, o_is_b, o_isN_n, o_isN_b, q_int, nq_int, x_slF, sl, hx2 _ (o3 eh), ep']
    have q1 : ∀ {n : Nat} {o : O}, n ≠ nr → g[n]? = some o → ((g2 ++ [O.lst (([e2, e3] : List Int).map D.int)]).set nr (.lst (rs'.map D.int)) ++ [O.lst (ps.map pD)])[n]? = some o := fun hn e => old (by rw [List.getElem?_set_ne (Ne.symm hn)]; exact o3 e)
    have q2 : ((g2 ++ [O.lst (([e2, e3] : List Int).map D.int)]).set nr (.lst (rs'.map D.int)) ++ [O.lst (ps.map pD)])[nr]? = some (.lst (rs'.map D.int)) := old (List.getElem?_set_self (lt_of_get (o3 er)))
    refine ⟨_, q1 n2 ew, by rw [List.length_map]; omega, acc ++ [(l, ps)], rs', _, _, _, _, rfl, ?_, ?_, ?_, ?_, by simp [hal], ?_, ?_⟩
    · rw [List.getElem?_set_ne (by omega)]; exact q1 n1 eh
    · rw [List.getElem?_set_ne n2]; exact q2
    · rw [List.getElem?_set_self (lt_of_get (q1 n2 ew)), List.map_append]
      rfl
    · have := p1.length_eq
      rw [List.length_append] at this
      omega
    · intro b hb
      rcases List.mem_append.mp hb with hb | hb
      · exact hbk b hb
      · simp at hb
        subst hb
        exact ⟨hlf, p2, W, hW1, hW2, p3⟩
    · rw [allKeys_snoc, List.append_assoc]
      exact (List.Perm.append_left _ p1).trans hpm
theorem sm5_ok {k0 k1 k2 k3 k4 k5 : Int} {nh nr nw j : Nat} {rs0 : List Int} {s : DS} {g : Hm} {N : DS → Hm → Prop} (hP : (P : Int) = 1 + k2) (hk0 : 0 ≤ k0 ∧ k0 < 3) (hk2 : 0 ≤ k2 ∧ k2 < 2) (hk3 : 0 ≤ k3 ∧ k3 < 3) (hk4 : 0 ≤ k4 ∧ k4 < 3) (hj : 1 ≤ j ∧ j ≤ 3) (i : SmI ns k0 k1 k2 k3 k4 k5 nh nr nw P rs0 j s g)
    (hrs : rs0.Nodup) (hrk : ∀ k ∈ rs0, 0 ≤ k ∧ k < 1 + k0) : NX (sm5 s g) N fun d _ => ∃ S, SdOk S P ∧ d = S.enc := by
  obtain ⟨acc, rs, x8, x9, x10, x11, rfl, eh, er, ew, hrl, hal, hbk, hpm⟩ := i
  have ix : ∀ (k : Nat) (v : Int), ([k0, k1, k2, k3, k4, k5] : List Int)[k]? = some v → dIx (.ref nh) (.int k) g = .ok (.int v) g := fun k v b => ix_ref eh (by rw [List.getElem?_map, b]; rfl)
  have j5 : dIx (.ref nh) (.int 5) g = .ok (.int k5) g := ix 5 k5 rfl
  have j3 : dIx (.ref nh) (.int 3) g = .ok (.int k3) g := ix 3 k3 rfl
  have j4 : dIx (.ref nh) (.int 4) g = .ok (.int k4) g := ix 4 k4 rfl
  refine nx_seq (nx_set ?_)
  simp -implicitDefEqProofs only [ok_ok, ok_bind, ok_tb, bl_bl, x_bin, x_args, evR_cons, evR_nil, x_var, x_c, ofO_some, x_and, x_or, x_not, x_eif, x_chain, x_lst, x_tup, x_isi, List.getElem?_cons_zero, List.getElem?_cons_succ, List.set_cons_zero, List.set_cons_succ, o_cmp, o_sub, o_add, o_int, o_is_n, o_is_b, o_isN_n, o_isN_b, q_int, nq_int]
  refine nx_seq (NX.mono (N := fun s h1 => ∃ due : Option Int, h1 = g ∧ (∀ k, due = some k → 0 ≤ k ∧ k < 1 + k0) ∧ s = [some (.scl (ns.map D.int)), some (.int 1), some (.int 2), some (.int 2), some (.ref nh), some (.int (1 + k0)), some (.ref nr), some (.ref nw), x8, x9, x10, x11, some (dueD due)]) (T := fun _ _ => False) ?_ ?_ (fun _ _ z => False.elim z))
  · refine nx_ifP (p := 2 ≤ k5) (h1 := g) (by simp only [x_bin, x_var, x_c, List.getElem?_cons_zero, List.getElem?_cons_succ, ofO_some, RD.bind_ok, j5, o_cmp]) (fun hc => ?_) (fun hc => ?_)
    · refine nx_set ?_
      simp -implicitDefEqProofs only [ok_ok, ok_bind, ok_tb, bl_bl, x_bin, x_args, evR_cons, evR_nil, x_var, x_c, ofO_some, x_and, x_or, x_not, x_eif, x_chain, x_lst, x_tup, x_isi, List.getElem?_cons_zero, List.getElem?_cons_succ, List.set_cons_zero, List.set_cons_succ, o_cmp, o_sub, o_add, o_int, o_is_n, o_is_b, o_isN_n, o_isN_b, q_int, nq_int, j5, o_mod, if_pos (show (0 : Int) < 1 + k0 by omega)]
      exact ⟨some (k5 % (1 + k0)), trivial, fun k hk => (by cases hk; exact ⟨Int.emod_nonneg _ (by omega), Int.emod_lt_of_pos _ (by omega)⟩), rfl⟩
    · exact nx_next ⟨none, rfl, fun k hk => (by cases hk), rfl⟩
  · rintro _ _ ⟨due, rfl, hdue, rfl⟩
    refine nx_ret ?_
    simp -implicitDefEqProofs only [ok_ok, ok_bind, ok_tb, bl_bl, x_bin, x_args, evR_cons, evR_nil, x_var, x_c, ofO_some, x_and, x_or, x_not, x_eif, x_chain, x_lst, x_tup, x_isi, List.getElem?_cons_zero, List.getElem?_cons_succ, List.set_cons_zero, List.set_cons_succ, o_cmp, o_sub, o_add, o_int, o_is_n, o_is_b, o_isN_n, o_isN_b, q_int, nq_int, tup_ref ew, j3, j4]
    have ndA : (allKeys acc ++ rs).Nodup := hpm.symm.nodup hrs
    exact ⟨⟨1 + k0, acc, k3, k4, due⟩, ⟨by show 1 ≤ 1 + k0; omega, by show 1 + k0 ≤ 9; omega, by show 1 ≤ acc.length; omega, by show acc.length ≤ 9; omega, by omega, by omega, hbk, (List.nodup_append.mp ndA).1, fun k hk => hrk k (hpm.subset (List.mem_append_left _ hk)), by show 0 ≤ k3 ∧ k3 ≤ 9; omega, by show 0 ≤ k4 ∧ k4 ≤ 9; omega, hdue⟩, rfl⟩
theorem x_small (h : Hm) : OK (m__law_small [.scl (ns.map D.int), .int 1, .int 2, .int 2] h) fun d _ => ∃ S P, SdOk S P ∧ d = S.enc := by
  obtain ⟨c, e0⟩ := x_cell ns 1 h (by omega)
  have hz : (h ++ [O.lst (([3, 3, 2, 3, 3, 4] : List Int).map D.int)])[h.length]? = some (.lst (([3, 3, 2, 3, 3, 4] : List Int).map D.int)) := get_last
  obtain ⟨ds, hD, e1⟩ := x_digits (h ++ [O.lst (([3, 3, 2, 3, 3, 4] : List Int).map D.int)]) h.length [3, 3, 2, 3, 3, 4] hz c (by intro z hz; simp at hz; omega) (by simp)
  have hdl := dig_len hD
  obtain ⟨k0, k1, k2, k3, k4, k5, rfl⟩ : ∃ k0 k1 k2 k3 k4 k5, ds = [k0, k1, k2, k3, k4, k5] := by
    match ds, hdl with
    | [k0, k1, k2, k3, k4, k5], _ => exact ⟨k0, k1, k2, k3, k4, k5, rfl⟩
  obtain ⟨d0, d1, d2, d3, d4, d5, _⟩ := hD
  refine ok_run ?_
  show NX (g__law_small [some (.scl (ns.map D.int)), some (.int 1), some (.int 2), some (.int 2), none, none, none, none, none, none, none, none, none] h) _ _
  unfold g__law_small
  refine nx_seq (nx_set ?_)
  have e1' : m__law_digits [.int c, .ref h.length] (h ++ [O.lst [.int 3, .int 3, .int 2, .int (2 + 1), .int (2 + 1), .int 4]]) = .ok (.ref (h ++ [O.lst [.int 3, .int 3, .int 2, .int 3, .int 3, .int 4]]).length) (h ++ [O.lst [.int 3, .int 3, .int 2, .int 3, .int 3, .int 4]] ++ [.lst (([k0, k1, k2, k3, k4, k5] : List Int).map D.int)]) := e1
  simp -implicitDefEqProofs only [ok_ok, ok_bind, ok_tb, bl_bl, x_bin, x_args, evR_cons, evR_nil, x_var, x_c, ofO_some, x_and, x_or, x_not, x_eif, x_chain, x_lst, x_tup, x_isi, List.getElem?_cons_zero, List.getElem?_cons_succ, List.set_cons_zero, List.set_cons_succ, o_cmp, o_sub, o_add, o_int, o_is_n, o_is_b, o_isN_n, o_isN_b, q_int, nq_int, e0, e1']
  generalize hnh : (h ++ [O.lst [.int 3, .int 3, .int 2, .int 3, .int 3, .int 4]]).length = nh
  obtain ⟨g, hg⟩ : ∃ g : Hm, g = h ++ [O.lst [.int 3, .int 3, .int 2, .int 3, .int 3, .int 4]] ++ [.lst (([k0, k1, k2, k3, k4, k5] : List Int).map D.int)] := ⟨_, rfl⟩
  rw [← hg]
  have eh : g[nh]? = some (.lst (([k0, k1, k2, k3, k4, k5] : List Int).map D.int)) := by rw [hg, ← hnh]; exact get_last
  have lnh := lt_of_get eh
  have ix : ∀ (t : Hm) (k : Nat) (v : Int), ([k0, k1, k2, k3, k4, k5] : List Int)[k]? = some v → dIx (.ref nh) (.int k) (g ++ t) = .ok (.int v) (g ++ t) := fun t k v b => ix_ref (old eh) (by rw [List.getElem?_map, b]; rfl)
  have i0 : dIx (.ref nh) (.int 0) g = .ok (.int k0) g := ix_ref (k := 0) eh rfl
  refine nx_seq (nx_set ?_)
  simp -implicitDefEqProofs only [ok_ok, ok_bind, ok_tb, bl_bl, x_bin, x_args, evR_cons, evR_nil, x_var, x_c, ofO_some, x_and, x_or, x_not, x_eif, x_chain, x_lst, x_tup, x_isi, List.getElem?_cons_zero, List.getElem?_cons_succ, List.set_cons_zero, List.set_cons_succ, o_cmp, o_sub, o_add, o_int, o_is_n, o_is_b, o_isN_n, o_isN_b, q_int, nq_int, i0]
  refine nx_seq (nx_set ?_)
  have elr : eListRg (eVar 5) [some (.scl (ns.map D.int)), some (.int 1), some (.int 2), some (.int 2), some (.ref nh), some (.int (1 + k0)), none, none, none, none, none, none, none] g = .ok (.ref g.length) (g ++ [.lst (rgD 0 (1 + k0))]) := by
    have hb : 1 + k0 ≤ 1000000 ∧ -1000000 ≤ 1 + k0 := by omega
    simp [eListRg, bListRg, hb]
  refine OK.of elr ?_
  simp only [List.set_cons_zero, List.set_cons_succ]
  refine nx_seq (nx_set ?_)
  simp -implicitDefEqProofs only [ok_ok, ok_bind, ok_tb, bl_bl, x_bin, x_args, evR_cons, evR_nil, x_var, x_c, ofO_some, x_and, x_or, x_not, x_eif, x_chain, x_lst, x_tup, x_isi, List.getElem?_cons_zero, List.getElem?_cons_succ, List.set_cons_zero, List.set_cons_succ, o_cmp, o_sub, o_add, o_int, o_is_n, o_is_b, o_isN_n, o_isN_b, q_int, nq_int]
  let rs0 : List Int := (List.range (1 + k0).toNat).map fun i : Nat => (i : Int)
  have er0 : rgD 0 (1 + k0) = rs0.map D.int := by simp [rgD, rs0]
  obtain ⟨M, hM⟩ := Int.eq_ofNat_of_zero_le (show 0 ≤ 1 + k1 by omega)
  have hnr : (g ++ [O.lst (rgD 0 (1 + k0))]).length = g.length + 1 := by simp
  rw [hnr]
  have n1 : nh ≠ g.length := by omega
  have n2 : g.length + 1 ≠ g.length := by omega
  have n3 : nh ≠ g.length + 1 := by omega
  have hP : (((1 + k2).toNat : Nat) : Int) = 1 + k2 := by omega
  refine nx_seq (nx_forR (n := M) (h1 := g ++ [.lst (rgD 0 (1 + k0))] ++ [.lst []]) (SmI ns k0 k1 k2 k3 k4 k5 nh g.length (g.length + 1) (1 + k2).toNat rs0) (by omega) ?_ ?_ ?_ ?_)
  · have e : dIx (.ref nh) (.int 1) (g ++ [.lst (rgD 0 (1 + k0))] ++ [.lst []]) = .ok (.int k1) (g ++ [.lst (rgD 0 (1 + k0))] ++ [.lst []]) := by
      have e := ix ([.lst (rgD 0 (1 + k0))] ++ [.lst []]) 1 k1 rfl
      rw [← List.append_assoc] at e
      exact e
    simp only [x_bin, x_var, x_c, List.getElem?_cons_zero, List.getElem?_cons_succ, ofO_some, RD.bind_ok, e, o_add]
    rw [show (1 + k1) = ((M : Nat) : Int) by omega]
  · refine ⟨[], rs0, _, _, _, _, rfl, old (old eh), ?_, ?_, by simp [rs0]; omega, rfl, fun b hb => (by cases hb), .refl _⟩
    · rw [← er0]; exact old get_last
    · rw [← hnr]; exact get_last
  · intro j s g' hj hi
    exact sm_turn n1 n2 n3 hP ⟨d2.1, by omega⟩ (by omega) hi
  · intro s g' hi
    have hrs : rs0.Nodup := by
      simp only [rs0]
      have hr : (List.range (1 + k0).toNat).Pairwise (fun a b => a ≠ b) := List.nodup_range
      refine List.pairwise_map.mpr ?_
      refine List.Pairwise.imp ?_ hr
      intro a b hab z
      exact hab (Int.ofNat.inj z)
    refine NX.mono (sm5_ok (N := fun _ _ => False) hP ⟨d0.1, by omega⟩ ⟨d2.1, by omega⟩ ⟨d3.1, by omega⟩ ⟨d4.1, by omega⟩ ⟨by omega, by omega⟩ hi hrs ?_) (fun _ _ z => False.elim z) ?_
    · intro k hk
      simp only [rs0, List.mem_map, List.mem_range] at hk
      obtain ⟨i, hi, rfl⟩ := hk
      omega
    · rintro d _ ⟨S, hS, rfl⟩
      exact ⟨S, _, hS, rfl⟩
theorem x_any (h : Hm) : OK (m__law_any_stand [.scl (ns.map D.int), .int 1] h) fun d _ => ∃ S P, SdOk S P ∧ d = S.enc := by
  obtain ⟨c, e0⟩ := x_cell ns 0 h (by omega)
  have hz : (h ++ [O.lst (([2] : List Int).map D.int)])[h.length]? = some (.lst (([2] : List Int).map D.int)) := get_last
  obtain ⟨ds, hD, e1⟩ := x_digits (h ++ [O.lst (([2] : List Int).map D.int)]) h.length [2] hz c (by intro z hz; simp at hz; omega) (by simp)
  have hdl := dig_len hD
  obtain ⟨k0, rfl⟩ : ∃ k0, ds = [k0] := by
    match ds, hdl with
    | [k0], _ => exact ⟨k0, rfl⟩
  have e1' : m__law_digits [.int c, .ref h.length] (h ++ [O.lst [.int 2]]) = .ok (.ref (h ++ [O.lst [.int 2]]).length) (h ++ [O.lst [.int 2]] ++ [.lst [.int k0]]) := e1
  have i0 : dIx (.ref (h ++ [O.lst [.int 2]]).length) (.int 0) (h ++ [O.lst [.int 2]] ++ [.lst [.int k0]]) = .ok (.int k0) (h ++ [O.lst [.int 2]] ++ [.lst [.int k0]]) := ix_ref (k := 0) get_last rfl
  refine ok_run ?_
  show NX (g__law_any_stand [some (.scl (ns.map D.int)), some (.int 1)] h) _ _
  unfold g__law_any_stand
  refine nx_seq (nx_ifP (p := k0 = 0) (h1 := h ++ [O.lst [.int 2]] ++ [.lst [.int k0]]) ?_ (fun hc => ?_) (fun hc => nx_next ?_))
  · simp only [x_bin, x_args, x_lst, evR_cons, evR_nil, x_var, x_c, List.getElem?_cons_zero, List.getElem?_cons_succ, ofO_some, RD.bind_ok, e0, e1', i0, q_int]
  · refine nx_ret ?_
    simp -implicitDefEqProofs only [ok_ok, ok_bind, ok_tb, bl_bl, x_bin, x_args, evR_cons, evR_nil, x_var, x_c, ofO_some, x_and, x_or, x_not, x_eif, x_chain, x_lst, x_tup, x_isi, List.getElem?_cons_zero, List.getElem?_cons_succ, List.set_cons_zero, List.set_cons_succ, o_cmp, o_sub, o_add, o_int, o_is_n, o_is_b, o_isN_n, o_isN_b, q_int, nq_int]
    obtain ⟨S, P, h', hS, e⟩ := x_drawn ns (h ++ [O.lst [.int 2]] ++ [.lst [.int k0]])
    exact OK.of e ⟨S, P, hS, rfl⟩
  · refine nx_ret ?_
    simp -implicitDefEqProofs only [ok_ok, ok_bind, ok_tb, bl_bl, x_bin, x_args, evR_cons, evR_nil, x_var, x_c, ofO_some, x_and, x_or, x_not, x_eif, x_chain, x_lst, x_tup, x_isi, List.getElem?_cons_zero, List.getElem?_cons_succ, List.set_cons_zero, List.set_cons_succ, o_cmp, o_sub, o_add, o_int, o_is_n, o_is_b, o_isN_n, o_isN_b, q_int, nq_int]
    exact x_small _
end
end Sh.k09

set_option linter.all false
set_option maxRecDepth 100000
namespace Sh.k09
open PySem L2 PyProof.Rows Sh
theorem nx_loopL {gt : GT} {gb : FS} {ck : Option (Nat × List D)} {N : DS → Hm → Prop} {T : D → Hm → Prop} (I : DS → Hm → Prop) (hck : ∀ s h, I s h → chkB ck h = true) : ∀ (xs : List D) (s : DS) (h : Hm),
    (∀ x ∈ xs, ∀ s h, I s h → ∃ s1, gt x s h = .nx s1 h ∧ NX (gb s1 h) I T) → I s h → (∀ s h, I s h → N s h) → NX (loopG ck gt gb xs s h) N T
  | [], s, h, _, i0, fin => by
    rw [loop_nil (hck _ _ i0)]
    exact .nx (fin _ _ i0)
  | x :: xs, s, h, turn, i0, fin => by
    obtain ⟨s1, e1, y⟩ := turn x List.mem_cons_self s h i0
    rw [loop_cons (hck _ _ i0) e1]
    generalize gb s1 h = r at y
    cases y with
    | nx q => exact nx_loopL I hck xs _ _ (fun z hz => turn z (List.mem_cons_of_mem _ hz)) q fin
    | rt q => exact .rt q
theorem nx_forL {f : FE} {gb : FS} {N : DS → Hm → Prop} {T : D → Hm → Prop} {v n : Nat} {xs : List D} {s : DS} {h h1 : Hm} (I : DS → Hm → Prop) (e : f s h = .ok (.ref n) h1) (e1 : h1[n]? = some (.lst xs)) (hck : ∀ s h, I s h → h[n]? = some (.lst xs)) (i0 : I s h1)
    (turn : ∀ x ∈ xs, ∀ s h, I s h → NX (gb (s.set v (some x)) h) I T) (fin : ∀ s h, I s h → N s h) : NX (gFor (fiSeq f) (tName v) gb s h) N T := by
  rw [for_ok (fi_ref e e1)]
  exact nx_loopL I (fun s h i => chk_ref (hck s h i)) xs s h1 (fun x hx s h i => ⟨_, rfl, turn x hx s h i⟩) i0 fin
theorem same_loop2 {F : FF} {xs ys : List D} {h : Hm} (hl : xs.length = ys.length) (hF : ∀ (k : Nat) (x y : D), xs[k]? = some x → ys[k]? = some y → F [x, y] h = .ok (.bl true) h) :
    ∀ (j k : Nat) (x2 : Option D), k + j = xs.length → ∃ x2', loopG none (tName 2) (gIf (eNot (eArgs F [(eBin dIx (eVar 0) (eVar 2)), (eBin dIx (eVar 1) (eVar 2))])) (gRet (eC (.bl false))) gNext) ((List.range' k j).map fun i => D.int (i : Nat)) [some (.tup xs), some (.tup ys), x2] h = .nx [some (.tup xs), some (.tup ys), x2'] h
  | 0, k, x2, _ => ⟨x2, by rw [List.range'_zero, List.map_nil, loop_nil chk_none]⟩
  | j + 1, k, x2, hk => by
    have hlt : k < xs.length := by omega
    have hlt2 : k < ys.length := by omega
    obtain ⟨x2', e⟩ := same_loop2 hl hF j (k + 1) (some (.int (k : Nat))) (by omega)
    refine ⟨x2', ?_⟩
    rw [List.range'_succ, List.map_cons, loop_cons chk_none (s1 := [some (.tup xs), some (.tup ys), some (.int (k : Nat))]) (h1 := h) rfl]
    have g1 := List.getElem?_eq_getElem hlt
    have g2 := List.getElem?_eq_getElem hlt2
    have e1 : dIx (.tup xs) (.int (k : Nat)) h = .ok xs[k] h := ix_tup g1
    have e2 : dIx (.tup ys) (.int (k : Nat)) h = .ok ys[k] h := ix_tup g2
    simp only [x_if, x_not, x_args, evR_cons, evR_nil, x_bin, x_var, List.getElem?_cons_zero, List.getElem?_cons_succ, ofO_some, RD.bind_ok, e1, e2, hF _ _ _ g1 g2, tb_ok, Bool.not_true, tst_ok, Bool.false_eq_true, if_false, x_next, lp_nx, e]
theorem x_sameT {n : Nat} {xs ys : List D} {h : Hm} (hl : xs.length = ys.length) (hb : xs.length < 1000000) (hF : ∀ (k : Nat) (x y : D), xs[k]? = some x → ys[k]? = some y → m__law_same n [x, y] h = .ok (.bl true) h) : m__law_same (n + 1) [.tup xs, .tup ys] h = .ok (.bl true) h := by
  obtain ⟨x2', e⟩ := same_loop2 hl hF xs.length 0 none (Nat.zero_add _)
  have t1 : isiB "tuple" h (.tup ys) = some true := by simp [kit_table]
  have t2 : isiB "tuple" h (.tup xs) = some true := by simp [kit_table]
  have t3 : isiB "list" h (.tup ys) = some false := by simp [kit_table]
  have ti : isiB "int" h (.tup ys) = some false := by simp [kit_table]
  have ts : isiB "str" h (.tup ys) = some false := by simp [kit_table]
  have hn : (D.tup ys) ≠ .non ∧ (D.tup ys) ≠ .bl true ∧ (D.tup ys) ≠ .bl false := ⟨by simp, by simp, by simp⟩
  have la : bLen [.tup xs] h = .ok (.int xs.length) h := rfl
  have lb : bLen [.tup ys] h = .ok (.int xs.length) h := by rw [hl]; rfl
  have hf : gFor (fiRg [eArgs bLen [eVar 1]]) (tName 2) (gIf (eNot (eArgs (m__law_same n) [(eBin dIx (eVar 0) (eVar 2)), (eBin dIx (eVar 1) (eVar 2))])) (gRet (eC (.bl false))) gNext) [some (.tup xs), some (.tup ys), none] h = .nx [some (.tup xs), some (.tup ys), x2'] h := by
    rw [for_ok (fi_rg (h1 := h) (j := (xs.length : Int)) (by simp only [x_args, evR_cons, evR_nil, x_var, List.getElem?_cons_zero, List.getElem?_cons_succ, ofO_some, RD.bind_ok, lb]) (by omega) (by omega)), Int.toNat_natCast, List.range_eq_range', e]
  show runB 3 (g__law_same (m__law_same n)) [.tup xs, .tup ys] h = _
  rw [x_run]
  unfold g__law_same
  simp -implicitDefEqProofs only [List.map_cons, List.map_nil, List.length_cons, List.length_nil, Nat.zero_add, Nat.reduceAdd, Nat.reduceSub, List.reduceReplicate, List.cons_append, List.nil_append, x_seq, x_if, x_bin, x_var, x_c, List.getElem?_cons_zero, List.getElem?_cons_succ, ofO_some, RD.bind_ok, o_is_n, o_is_b, tst_ok, hn.1, hn.2.1, hn.2.2, decide_false, Bool.false_eq_true, if_false, x_next, seq_nx, x_isi, ti, ts, x_and, x_not]
  simp -implicitDefEqProofs only [t1, t2, t3, x_seq, x_if, x_and, x_isi, x_not, tb_ok, if_true, Bool.not_true, tst_ok, Bool.false_eq_true, if_false, x_next, seq_nx, x_args, evR_cons, evR_nil, x_bin, x_var, List.getElem?_cons_zero, List.getElem?_cons_succ, ofO_some, RD.bind_ok, la, lb, nq_int, decide_true, hf, x_ret, x_c, RD.st_ok, out_rt]
theorem same_word {S : Sd} {pages : Nat} (o : SdOk S pages) (w : Str) (h : Hm) : m__law_same 8 [.tup [.str w, S.enc], .tup [.str w, S.enc]] h = .ok (.bl true) h := by
  refine x_same 7 _ h ?_
  have := pure_enc o 2
  simp [pureD, pureL, this]
theorem same_encD {S : Sd} {pages : Nat} (o : SdOk S pages) (h : Hm) : m__law_same 8 [S.enc, S.enc] h = .ok (.bl true) h := x_same 7 _ h (pure_enc o 3)
theorem same_flag (w : Str) (b : Bool) (h : Hm) : m__law_same 8 [.tup [.str w, .bl b], .tup [.str w, .bl b]] h = .ok (.bl true) h := x_same 7 _ h rfl
end Sh.k09

set_option linter.all false
set_option maxRecDepth 100000
namespace Sh.k09
open PySem L2 PyProof.Rows Sh
def rowsD (cs : List (Lf × List Pg)) (rs : List Nat) : List D := (cs.zip rs).map fun x => .tup [lD x.1.1, .ref x.2]
structure RowsAt (H : Hm) (p : Nat) (cs : List (Lf × List Pg)) (rs : List Nat) : Prop where
  at_ : H[p]? = some (.lst (rowsD cs rs))
  len : rs.length = cs.length
  pg : ∀ (j : Nat) (c : Lf × List Pg) (r : Nat), cs[j]? = some c → rs[j]? = some r → H[r]? = some (.lst (c.2.map pD))
theorem rowsD_get {cs : List (Lf × List Pg)} {rs : List Nat} {j : Nat} {c : Lf × List Pg} {r : Nat} (h1 : cs[j]? = some c) (h2 : rs[j]? = some r) : (rowsD cs rs)[j]? = some (.tup [lD c.1, .ref r]) := by
  unfold rowsD
  have h3 : (cs.zip rs)[j]? = some (c, r) := by
    rw [List.getElem?_zip_eq_some]
    exact ⟨h1, h2⟩
  rw [List.getElem?_map, h3]
  rfl
theorem rowsD_len {cs : List (Lf × List Pg)} {rs : List Nat} (h : rs.length = cs.length) : (rowsD cs rs).length = cs.length := by
  unfold rowsD
  rw [List.length_map, List.length_zip]
  omega
theorem rowsD_set {cs : List (Lf × List Pg)} {rs : List Nat} {i r : Nat} {l : Lf} {ps : List Pg} (hl : rs.length = cs.length) (hi : i < cs.length) : (rowsD cs rs).set i (.tup [lD l, .ref r]) = rowsD (cs.set i (l, ps)) (rs.set i r) := by
  apply List.ext_getElem?
  intro j
  by_cases hj : i = j
  · subst hj
    rw [List.getElem?_set_self (by rw [rowsD_len hl]; exact hi)]
    exact (rowsD_get (c := (l, ps)) (List.getElem?_set_self hi) (List.getElem?_set_self (by omega))).symm
  · rw [List.getElem?_set_ne hj]
    by_cases hlt : j < cs.length
    · have h1 : cs[j]? = some cs[j] := List.getElem?_eq_getElem hlt
      have h2 : rs[j]? = some rs[j] := List.getElem?_eq_getElem (by omega)
      rw [rowsD_get h1 h2]
      exact (rowsD_get (by rw [List.getElem?_set_ne hj]; exact h1) (by rw [List.getElem?_set_ne hj]; exact h2)).symm
    · rw [List.getElem?_eq_none (by rw [rowsD_len hl]; omega), List.getElem?_eq_none (by rw [rowsD_len (by simp [hl])]; simp; omega)]
theorem ok_lcL {gt : GT} {ft fe : FE} {p : Nat} {s0 : DS} {ck : Option (Nat × List D)} {Q : D → Hm → Prop} {xs : List D} (I : Nat → List D → Hm → Prop) (hb : xs.length < 1000000) (hck : ∀ j acc h, I j acc h → chkB ck h = true) (hl : ∀ j acc h, I j acc h → acc.length = j)
    (turn : ∀ (j : Nat) (x : D) acc h, xs[j]? = some x → I j acc h → ∃ s1, gt x s0 h = .nx s1 h ∧ ft s1 h = .ok (.bl true) h ∧ OK (fe s1 h) fun d h3 => h3[p]? = some (.lst acc) ∧ I (j + 1) (acc ++ [d]) (h3.set p (.lst (acc ++ [d])))) :
    ∀ (m j : Nat) (acc : List D) (h : Hm), j + m = xs.length → I j acc h → (∀ acc h, I xs.length acc h → Q (.ref p) h) → OK (lcLoop ck gt ft fe p s0 (xs.drop j) h) Q
  | 0, j, acc, h, e, i0, fin => by
    rw [List.drop_of_length_le (by omega)]
    unfold lcLoop
    rw [if_pos (hck _ _ _ i0)]
    have : j = xs.length := by omega
    subst this
    exact .mk (fin _ _ i0)
  | m + 1, j, acc, h, e, i0, fin => by
    have hj : j < xs.length := by omega
    obtain ⟨s1, e1, e2, x⟩ := turn j xs[j] acc h (List.getElem?_eq_getElem hj) i0
    obtain ⟨d, h3, e3, e4, q⟩ := x.get
    rw [List.drop_eq_getElem_cons hj]
    unfold lcLoop
    rw [if_pos (hck _ _ _ i0), e1]
    dsimp only
    rw [e2]
    dsimp only
    rw [e3]
    dsimp only
    rw [e4]
    dsimp only
    have hlt : acc.length < big := by
      have := hl _ _ _ i0
      show acc.length < 1000000
      omega
    rw [if_pos hlt]
    exact ok_lcL I hb hck hl turn m (j + 1) _ _ (by omega) q fin
theorem mk_rows {s : DS} {h : Hm} {f0 : FE} {i j : Nat} {bs : List (Lf × List Pg)} (hf : f0 s h = .ok (.tup (bs.map bD)) h) (hij : i ≠ j) (hi : i < s.length) (hj : j < s.length) (hb : bs.length ≤ 9) {w : List Nat} (hw : ∀ s : DS, (wipeD s w).length = s.length) :
    ∃ rs u, eLc (fiSeq f0) (tTup [tName i, tName j]) (eC (.bl true)) (eTup [eVar i, eArgs bList [eVar j]]) w s h = .ok (.ref h.length) (h ++ u) ∧ RowsAt (h ++ u) h.length bs rs ∧ rs.Nodup ∧ ∀ r ∈ rs, h.length < r := by
  have key : OK (eLc (fiSeq f0) (tTup [tName i, tName j]) (eC (.bl true)) (eTup [eVar i, eArgs bList [eVar j]]) w s h) fun d h' => ∃ rs u, d = .ref h.length ∧ h' = h ++ u ∧ RowsAt h' h.length bs rs ∧ rs.Nodup ∧ ∀ r ∈ rs, h.length < r := by
    unfold eLc
    rw [fi_tup hf]
    dsimp only
    have hn : (bs.map bD).length = bs.length := List.length_map ..
    refine ok_lcL (xs := bs.map bD) (fun k acc g => k ≤ bs.length ∧ ∃ rs u, acc = rowsD (bs.take k) rs ∧ g = h ++ .lst acc :: u ∧ rs.length = k ∧ (∀ (q : Nat) (c : Lf × List Pg) (r : Nat), bs[q]? = some c → rs[q]? = some r → g[r]? = some (.lst (c.2.map pD))) ∧ rs.Nodup ∧ ∀ r ∈ rs, h.length < r ∧ r < g.length) (by omega) (fun _ _ _ _ => rfl) ?_ ?_ (bs.map bD).length 0 [] _ (by omega) ?_ ?_
    · rintro k acc g ⟨hk, rs, u, rfl, rfl, hr, _⟩
      rw [rowsD_len (by rw [hr, List.length_take]; omega), List.length_take]
      omega
    · rintro k x acc g hx ⟨hk, rs, u, rfl, rfl, hr, hpg, hnd, hgt⟩
      have hkl : k < bs.length := by
        have := (List.getElem?_eq_some_iff.mp hx).1
        omega
      rw [List.getElem?_map] at hx
      have hc : bs[k]? = some bs[k] := List.getElem?_eq_getElem hkl
      generalize bs[k] = c at hc
      rw [hc] at hx
      cases hx
      let s1 : DS := ((wipeD s w).set i (some (lD c.1))).set j (some (.tup (c.2.map pD)))
      have g1 : s1[i]? = some (some (lD c.1)) := by
        show (((wipeD s w).set i _).set j _)[i]? = _
        rw [List.getElem?_set_ne (fun z => hij z.symm), List.getElem?_set_self (by rw [hw]; exact hi)]
      have g2 : s1[j]? = some (some (.tup (c.2.map pD))) := List.getElem?_set_self (by rw [List.length_set, hw]; exact hj)
      have hlen : rs.length = (bs.take k).length := by rw [hr, List.length_take]; omega
      have hbl : ∀ g : Hm, bList [.tup (c.2.map pD)] g = .ok (.ref g.length) (g ++ [.lst (c.2.map pD)]) := fun g => by simp [bList, items]
      refine ⟨s1, rfl, rfl, OK.of (d := .tup [lD c.1, .ref (h ++ O.lst (rowsD (bs.take k) rs) :: u).length]) (h := h ++ O.lst (rowsD (bs.take k) rs) :: u ++ [.lst (c.2.map pD)]) ?_ ?_⟩
      · simp only [x_tup, evR_cons, evR_nil, x_var, g1, g2, ofO_some, RD.bind_ok, x_args, hbl]
      · generalize hN : (h ++ O.lst (rowsD (bs.take k) rs) :: u).length = N
        have hNl : h.length < N := by rw [← hN]; simp
        have eacc : rowsD (bs.take k) rs ++ [.tup [lD c.1, .ref N]] = rowsD (bs.take (k + 1)) (rs ++ [N]) := by
          unfold rowsD
          rw [List.take_succ, hc, List.zip_append (by rw [hlen]), List.map_append]
          rfl
        have eset : (h ++ O.lst (rowsD (bs.take k) rs) :: u ++ [O.lst (c.2.map pD)]).set h.length (.lst (rowsD (bs.take (k + 1)) (rs ++ [N]))) = h ++ .lst (rowsD (bs.take (k + 1)) (rs ++ [N])) :: (u ++ [.lst (c.2.map pD)]) := by
          rw [List.append_assoc]
          exact set_mid
        refine ⟨by rw [List.append_assoc]; exact get_mid, by omega, rs ++ [N], u ++ [.lst (c.2.map pD)], eacc, ?_, by simp [hr], ?_, ?_, ?_⟩
        · rw [eacc, eset]
        · rw [eacc, eset]
          intro q c' r hq hr'
          have look : ∀ {r : Nat} {o : O}, h.length < r → (h ++ O.lst (rowsD (bs.take k) rs) :: u ++ [O.lst (c.2.map pD)])[r]? = some o → (h ++ O.lst (rowsD (bs.take (k + 1)) (rs ++ [N])) :: (u ++ [.lst (c.2.map pD)]))[r]? = some o := by
            intro r o hr e
            rw [← eset, List.getElem?_set_ne (by omega)]
            exact e
          by_cases hqk : q < rs.length
          · rw [List.getElem?_append_left hqk] at hr'
            exact look (hgt r (List.mem_of_getElem? hr')).1 (old (hpg q c' r hq hr'))
          · rw [List.getElem?_append_right (by omega)] at hr'
            have hq0 : q = k := by
              have := (List.getElem?_eq_some_iff.mp hr').1
              simp at this
              omega
            subst hq0
            rw [hr, Nat.sub_self] at hr'
            cases hr'
            rw [hc] at hq
            cases hq
            exact look hNl (by rw [← hN]; exact get_last)
        · refine List.nodup_append.mpr ⟨hnd, by simp, fun x hx y hy z => ?_⟩
          simp at hy
          have := (hgt x hx).2
          omega
        · intro r hr'
          rw [eacc, eset]
          rcases List.mem_append.mp hr' with hr' | hr'
          · have := hgt r hr'
            simp at this ⊢
            omega
          · simp at hr'
            subst hr'
            refine ⟨hNl, ?_⟩
            rw [← hN]
            simp
    · exact ⟨Nat.zero_le _, [], [], rfl, rfl, rfl, fun q c r _ z => by simp at z, List.nodup_nil, fun r hr => by cases hr⟩
    · rintro acc g ⟨hk, rs, u, rfl, rfl, hr, hpg, hnd, hgt⟩
      rw [hn] at hr
      refine ⟨rs, .lst (rowsD (bs.take (bs.map bD).length) rs) :: u, rfl, rfl, ⟨?_, hr, hpg⟩, hnd, fun r hr => (hgt r hr).1⟩
      rw [get_mid, hn, List.take_of_length_le (Nat.le_refl _)]
  obtain ⟨d, h', e, rs, u, rfl, rfl, hR, h1, h2⟩ := key.get
  exact ⟨rs, u, e, hR, h1, h2⟩
def readD (H : Hm) : D → D
  | .tup [l, .ref r] => match H[r]? with
    | some (.lst ps) => .tup [l, .tup ps]
    | _ => .tup [l, .ref r]
  | d => d
theorem read_rows {s : DS} {H : Hm} {fl : FE} {i j p : Nat} {cs : List (Lf × List Pg)} {rs : List Nat} (R : RowsAt H p cs rs) (hf : fl s H = .ok (.ref p) H) (hij : i ≠ j) (hi : i < s.length) (hj : j < s.length) (hb : cs.length ≤ 9) {w : List Nat} (hw : ∀ s : DS, (wipeD s w).length = s.length) :
    ∃ t, (eArgs bTuple [eLc (fiSeq fl) (tTup [tName i, tName j]) (eC (.bl true)) (eTup [eVar i, eArgs bTuple [eVar j]]) w]) s H = .ok (.tup (cs.map bD)) (H ++ t) := by
  have hl := rowsD_len R.len
  have each : ∀ x ∈ rowsD cs rs, ∃ (q : Nat) (c : Lf × List Pg) (r : Nat), x = .tup [lD c.1, .ref r] ∧ H[r]? = some (.lst (c.2.map pD)) := by
    intro x hx
    obtain ⟨q, hq, e⟩ := List.mem_iff_getElem.mp hx
    have hqc : q < cs.length := by omega
    have h1 : cs[q]? = some cs[q] := List.getElem?_eq_getElem hqc
    obtain ⟨r, h2⟩ : ∃ r, rs[q]? = some r := ⟨_, List.getElem?_eq_getElem (by have := R.len; omega)⟩
    have h3 := rowsD_get h1 h2
    rw [List.getElem?_eq_getElem hq, e] at h3
    exact ⟨q, _, _, Option.some.inj h3, R.pg q _ _ h1 h2⟩
  obtain ⟨t2, e1⟩ := elc_map (fi := fiSeq fl) (gt := tTup [tName i, tName j]) (ft := eC (.bl true)) (fe := eTup [eVar i, eArgs bTuple [eVar j]]) (own := w) (s := s) (h := H) (ck := some (p, rowsD cs rs)) (xs := rowsD cs rs) (val := readD H)
    (fi_ref hf R.at_) (fun u => chk_old R.at_ u) (fun x hx u => by
      obtain ⟨q, c, r, rfl, er⟩ := each x hx
      let s1 : DS := ((wipeD s w).set i (some (lD c.1))).set j (some (.ref r))
      have g1 : s1[i]? = some (some (lD c.1)) := by
        show (((wipeD s w).set i _).set j _)[i]? = _
        rw [List.getElem?_set_ne (fun z => hij z.symm), List.getElem?_set_self (by rw [hw]; exact hi)]
      have g2 : s1[j]? = some (some (.ref r)) := List.getElem?_set_self (by rw [List.length_set, hw]; exact hj)
      refine ⟨s1, [], rfl, rfl, ?_⟩
      have ev : readD H (.tup [lD c.1, .ref r]) = .tup [lD c.1, .tup (c.2.map pD)] := by simp only [readD, er]
      rw [ev, List.append_nil]
      simp only [x_tup, evR_cons, evR_nil, x_var, g1, g2, ofO_some, RD.bind_ok, x_args, tup_ref (old er)]) (by omega)
  have em : (rowsD cs rs).map (readD H) = cs.map bD := by
    apply List.ext_getElem?
    intro q
    rw [List.getElem?_map, List.getElem?_map]
    by_cases hq : q < cs.length
    · have h1 : cs[q]? = some cs[q] := List.getElem?_eq_getElem hq
      obtain ⟨r, h2⟩ : ∃ r, rs[q]? = some r := ⟨_, List.getElem?_eq_getElem (by have := R.len; omega)⟩
      rw [rowsD_get h1 h2, h1]
      have er := R.pg q _ _ h1 h2
      simp only [Option.map_some, readD, er]
      rfl
    · rw [List.getElem?_eq_none (by omega), List.getElem?_eq_none (by omega)]
      rfl
  rw [em] at e1
  exact ⟨.lst (cs.map bD) :: t2, by simp only [x_args, evR_cons, evR_nil, e1, RD.bind_ok, tup_last]⟩
theorem upd_rows {H : Hm} {p : Nat} {cs : List (Lf × List Pg)} {rs : List Nat} {i r : Nat} {l : Lf} {ps : List Pg} (R : RowsAt H p cs rs) (hnd : rs.Nodup) (hp : p ∉ rs) (hi : rs[i]? = some r) : RowsAt ((H.set r (.lst (ps.map pD))).set p (.lst ((rowsD cs rs).set i (.tup [lD l, .ref r])))) p (cs.set i (l, ps)) rs := by
  have hil : i < cs.length := by
    have := (List.getElem?_eq_some_iff.mp hi).1
    have := R.len
    omega
  have hself : rs.set i r = rs := by
    apply List.ext_getElem?
    intro j
    by_cases hj : i = j
    · subst hj
      rw [List.getElem?_set_self (List.getElem?_eq_some_iff.mp hi).1, hi]
    · rw [List.getElem?_set_ne hj]
  have hrl : r < H.length := lt_of_get (R.pg i _ r (List.getElem?_eq_getElem hil) hi)
  refine ⟨?_, by simp [R.len], fun j c q hc hq => ?_⟩
  · rw [List.getElem?_set_self (by rw [List.length_set]; exact lt_of_get R.at_), rowsD_set R.len hil, hself]
  · have hqp : p ≠ q := fun z => hp (by rw [z]; exact List.mem_of_getElem? hq)
    rw [List.getElem?_set_ne hqp]
    by_cases hj : i = j
    · subst hj
      rw [hi] at hq
      cases hq
      rw [List.getElem?_set_self hil] at hc
      cases hc
      rw [List.getElem?_set_self hrl]
    · rw [List.getElem?_set_ne hj] at hc
      have hqr : r ≠ q := by
        intro z
        subst z
        obtain ⟨a1, a2⟩ := List.getElem?_eq_some_iff.mp hi
        obtain ⟨b1, b2⟩ := List.getElem?_eq_some_iff.mp hq
        exact hj ((List.getElem_inj hnd).mp (a2.trans b2.symm))
      rw [List.getElem?_set_ne hqr]
      exact R.pg j c q hc hq
end Sh.k09

set_option linter.all false
set_option maxRecDepth 100000
namespace Sh.k09
open PySem L2 PyProof.Rows Sh
theorem set_ge {h u : Hm} {r : Nat} (o : O) (hr : h.length ≤ r) : ∃ u', (h ++ u).set r o = h ++ u' := ⟨u.set (r - h.length) o, by rw [List.set_append_right _ _ hr]⟩
theorem ne_noreply (h : Hm) : dNe (.tup [.str "no reply"]) (.tup [.str "no reply"]) h = .ok (.bl false) h := by
  have s1 : SeqAt.shaped (.tuple [.str "no reply"]) = true := by decide +kernel
  have e1 : toPy 20 h (.tup [.str "no reply"]) = some (.tuple [.str "no reply"]) := rfl
  have e2 : PyData.eqv (.tuple [.str "no reply"]) (.tuple [.str "no reply"]) = true := by decide +kernel
  have e : eqB h (.tup [.str "no reply"]) (.tup [.str "no reply"]) = some true := by
    unfold eqB
    simp only [eqSc, e1]
    rw [if_pos ⟨s1, s1⟩, e2]
  simp only [dNe, e]
  rfl
theorem cps_eq {S T : Sd} (h : S.blocks = T.blocks) : ∀ j i, cpsL S j i = cpsL T j i
  | 0, _ => rfl
  | j + 1, i => by simp only [cpsL, h, cps_eq h j]
theorem acts_calm (S : Sd) (f c : Int) : actsD { S with fails := f, cuts := c } = actsD S := by
  obtain ⟨keys, blocks, fails, cuts, due⟩ := S
  cases due with
  | none => rfl
  | some k =>
    show (roomsL 0 blocks).map wrD ++ cpsL ⟨keys, blocks, f, c, some k⟩ keys.toNat 0 ++ ersL 0 blocks = (roomsL 0 blocks).map wrD ++ cpsL ⟨keys, blocks, fails, cuts, some k⟩ keys.toNat 0 ++ ersL 0 blocks
    rw [cps_eq (S := ⟨keys, blocks, f, c, some k⟩) (T := ⟨keys, blocks, fails, cuts, some k⟩) rfl]
theorem AcOk.calm {S : Sd} {a : Ac} {b : Lf × List Pg} (h : AcOk S a b) (f c : Int) : AcOk { S with fails := f, cuts := c } a b := ⟨h.at_, h.due, h.room, h.era, h.key⟩
theorem x_two {ns : List Int} (h : Hm) {s : DS} (hs : s[0]? = some (some (.scl (ns.map D.int)))) : ∃ d0 d1 n t, (eArgs m__law_digits [(eArgs m__law_cell [(eVar 0), (eC (.int 11))]), (eLst [(eC (.int 9)), (eC (.int 9))])]) s h = .ok (.ref n) (h ++ t) ∧ (h ++ t)[n]? = some (.lst [.int d0, .int d1]) ∧ (0 ≤ d0 ∧ d0 < 9) ∧ (0 ≤ d1 ∧ d1 < 9) := by
  obtain ⟨c, e0⟩ := x_cell ns 11 h (by omega)
  have hz : (h ++ [O.lst (([9, 9] : List Int).map D.int)])[h.length]? = some (.lst (([9, 9] : List Int).map D.int)) := get_last
  obtain ⟨ds, hD, e1⟩ := x_digits (h ++ [O.lst (([9, 9] : List Int).map D.int)]) h.length [9, 9] hz c (by intro z hz; simp at hz; omega) (by simp)
  have hdl := dig_len hD
  obtain ⟨d0, d1, rfl⟩ : ∃ d0 d1, ds = [d0, d1] := by
    match ds, hdl with
    | [d0, d1], _ => exact ⟨d0, d1, rfl⟩
  obtain ⟨b0, b1, _⟩ := hD
  have e1' : m__law_digits [.int c, .ref h.length] (h ++ [O.lst [.int 9, .int 9]]) = .ok (.ref (h ++ [O.lst [.int 9, .int 9]]).length) (h ++ [O.lst [.int 9, .int 9]] ++ [.lst [.int d0, .int d1]]) := e1
  refine ⟨d0, d1, (h ++ [O.lst [.int 9, .int 9]]).length, [O.lst [.int 9, .int 9]] ++ [.lst [.int d0, .int d1]], ?_, ?_, b0, b1⟩
  · simp only [x_args, x_lst, evR_cons, evR_nil, x_var, x_c, hs, ofO_some, RD.bind_ok, e0, e1', List.append_assoc]
  · rw [← List.append_assoc]; exact get_last
end Sh.k09

set_option linter.all false
set_option maxRecDepth 100000
namespace Sh.k09
open PySem L2 PyProof.Rows Sh
/-! values of a script: flat ones, and tuples and lists of these -/
def Vd : Nat → Hm → D → Prop
  | _, _, .non => True
  | _, _, .bl _ => True
  | _, _, .int _ => True
  | _, _, .str s => PyData.canLay0 (.str s) = true
  | n + 1, h, .tup ds => ds.length < 1000000 ∧ ∀ d ∈ ds, Vd n h d
  | n + 1, h, .ref k => ∃ ds, h[k]? = some (.lst ds) ∧ ds.length < 1000000 ∧ ∀ d ∈ ds, Vd n h d
  | _, _, _ => False
theorem vd_old : ∀ {n : Nat} {h t : Hm} {d : D}, Vd n h d → Vd n (h ++ t) d
  | n, h, t, .non, v => by cases n <;> trivial
  | n, h, t, .bl _, v => by cases n <;> trivial
  | n, h, t, .int _, v => by cases n <;> trivial
  | 0, h, t, .str _, v => v
  | n + 1, h, t, .str _, v => v
  | n + 1, h, t, .tup ds, v => ⟨v.1, fun d hd => vd_old (v.2 d hd)⟩
  | n + 1, h, t, .ref k, v => by
    obtain ⟨ds, e, hl, hv⟩ := v
    exact ⟨ds, old e, hl, fun d hd => vd_old (hv d hd)⟩
  | 0, h, t, .tup ds, v => v
  | 0, h, t, .ref k, v => v
  | 0, h, t, .scl _, v => v
  | n + 1, h, t, .scl _, v => v
theorem vd_up : ∀ {n : Nat} {h : Hm} {d : D}, Vd n h d → Vd (n + 1) h d
  | n, h, .non, v => trivial
  | n, h, .bl _, v => trivial
  | n, h, .int _, v => trivial
  | 0, h, .str _, v => v
  | n + 1, h, .str _, v => v
  | n + 1, h, .tup ds, v => ⟨v.1, fun d hd => vd_up (v.2 d hd)⟩
  | n + 1, h, .ref k, v => by
    obtain ⟨ds, e, hl, hv⟩ := v
    exact ⟨ds, e, hl, fun d hd => vd_up (hv d hd)⟩
  | 0, h, .tup ds, v => False.elim v
  | 0, h, .ref k, v => False.elim v
  | 0, h, .scl _, v => False.elim v
  | n + 1, h, .scl _, v => False.elim v
theorem mapO_ex {n : Nat} {f : D → Option PyData} : ∀ ds : List D, (∀ d ∈ ds, ∃ P, f d = some P ∧ PyData.canLay0 P = true ∧ PyData.depth P ≤ n) → ∃ Ps, mapO f ds = some Ps ∧ PyData.canLayAll0 Ps = true ∧ PyData.depthAll Ps ≤ n
  | [], _ => ⟨[], rfl, rfl, Nat.zero_le _⟩
  | d :: ds, k => by
    obtain ⟨P, e1, e2, e3⟩ := k d List.mem_cons_self
    obtain ⟨Ps, f1, f2, f3⟩ := mapO_ex ds fun x hx => k x (List.mem_cons_of_mem _ hx)
    refine ⟨P :: Ps, ?_, ?_, ?_⟩
    · simp only [mapO, e1, f1]
    · rw [PyData.canLayAll0, e2, f2]; rfl
    · rw [PyData.depthAll]; omega
theorem vd_py : ∀ {n m : Nat} {h : Hm} {d : D}, n ≤ m → Vd n h d → ∃ P, toPy m h d = some P ∧ PyData.canLay0 P = true ∧ PyData.depth P ≤ n
  | n, m, h, .non, _, v => ⟨.none, by cases m <;> rfl, rfl, Nat.zero_le _⟩
  | n, m, h, .bl b, _, v => ⟨.bool b, by cases m <;> rfl, rfl, Nat.zero_le _⟩
  | n, m, h, .int b, _, v => ⟨.int b, by cases m <;> rfl, rfl, Nat.zero_le _⟩
  | n, m, h, .str b, _, v => ⟨.str b, by cases m <;> rfl, by cases n <;> exact v, Nat.zero_le _⟩
  | n + 1, m + 1, h, .tup ds, hm, v => by
    obtain ⟨Ps, e1, e2, e3⟩ := mapO_ex (n := n) (f := toPy m h) ds fun d hd => vd_py (by omega) (v.2 d hd)
    refine ⟨.tuple Ps, ?_, e2, ?_⟩
    · show (mapO (toPy m h) ds).map PyData.tuple = _
      rw [e1]; rfl
    · show PyData.depthAll Ps + 1 ≤ n + 1
      omega
  | n + 1, m + 1, h, .ref k, hm, v => by
    obtain ⟨ds, e, hl, hv⟩ := v
    obtain ⟨Ps, e1, e2, e3⟩ := mapO_ex (n := n) (f := toPy m h) ds fun d hd => vd_py (by omega) (hv d hd)
    refine ⟨.list Ps, ?_, e2, ?_⟩
    · show (match h[k]? with
        | some (.lst ds) => (mapO (toPy m h) ds).map PyData.list
        | some (.scr ds) => (mapO (toPy m h) ds).map PyData.list
        | _ => none) = _
      rw [e]
      dsimp only
      rw [e1]; rfl
    · show PyData.depthAll Ps + 1 ≤ n + 1
      omega
  | n + 1, 0, h, .tup ds, hm, v => by omega
  | n + 1, 0, h, .ref ds, hm, v => by omega
  | 0, m, h, .tup ds, _, v => False.elim v
  | 0, m, h, .ref k, _, v => False.elim v
  | 0, m, h, .scl _, _, v => False.elim v
  | n + 1, m, h, .scl _, _, v => False.elim v
theorem vd_shaped {n : Nat} {h : Hm} {d : D} (hn : n ≤ 20) (v : Vd n h d) : ∃ P, toPy 20 h d = some P ∧ SeqAt.shaped P = true := by
  obtain ⟨P, e1, e2, e3⟩ := vd_py hn v
  refine ⟨P, e1, ?_⟩
  simp only [SeqAt.shaped, e2, Bool.true_and, decide_eq_true_eq]
  omega
def siD : D → Bool
  | .str _ => true
  | .int _ => true
  | _ => false
theorem py_str {m : Nat} {h : Hm} {x : D} {w : Str} (e : toPy m h x = some (.str w)) : x = .str w := by
  cases x with
  | str s => cases m <;> (cases e; rfl)
  | non => cases m <;> cases e
  | bl b => cases m <;> cases e
  | int b => cases m <;> cases e
  | tup ds =>
    cases m with
    | zero => cases e
    | succ m =>
      have e' : (mapO (toPy m h) ds).map PyData.tuple = some (.str w) := e
      cases q : mapO (toPy m h) ds <;> rw [q] at e' <;> cases e'
  | ref k =>
    cases m with
    | zero => cases e
    | succ m =>
      have e' : (match h[k]? with
        | some (.lst ds) => (mapO (toPy m h) ds).map PyData.list
        | some (.scr ds) => (mapO (toPy m h) ds).map PyData.list
        | _ => none) = some (.str w) := e
      split at e'
      · rename_i ds _
        cases q : mapO (toPy m h) ds <;> rw [q] at e' <;> cases e'
      · rename_i ds _
        cases q : mapO (toPy m h) ds <;> rw [q] at e' <;> cases e'
      · cases e'
  | scl ds =>
    cases m with
    | zero => cases e
    | succ m =>
      have e' : (mapO (toPy m h) ds).map PyData.list = some (.str w) := e
      cases q : mapO (toPy m h) ds <;> rw [q] at e' <;> cases e'
theorem py_int {m : Nat} {h : Hm} {x : D} {P : PyData} {i : Int} (e : toPy m h x = some P) (q : PyData.eqv (.int i) P = true) : x = .int i ∨ ∃ b, x = .bl b := by
  cases x with
  | str s => cases m <;> (cases e; cases q)
  | non => cases m <;> (cases e; cases q)
  | bl b => exact .inr ⟨b, rfl⟩
  | int b =>
    left
    have : P = .int b := by cases m <;> (cases e; rfl)
    subst this
    have : i = b := by simpa [PyData.eqv] using q
    rw [this]
  | tup ds =>
    cases m with
    | zero => cases e
    | succ m =>
      have e' : (mapO (toPy m h) ds).map PyData.tuple = some P := e
      cases z : mapO (toPy m h) ds <;> rw [z] at e' <;> cases e'
      cases q
  | ref k =>
    cases m with
    | zero => cases e
    | succ m =>
      have e' : (match h[k]? with
        | some (.lst ds) => (mapO (toPy m h) ds).map PyData.list
        | some (.scr ds) => (mapO (toPy m h) ds).map PyData.list
        | _ => none) = some P := e
      split at e'
      · rename_i ds _
        cases z : mapO (toPy m h) ds <;> rw [z] at e' <;> cases e'
        cases q
      · rename_i ds _
        cases z : mapO (toPy m h) ds <;> rw [z] at e' <;> cases e'
        cases q
      · cases e'
  | scl ds =>
    cases m with
    | zero => cases e
    | succ m =>
      have e' : (mapO (toPy m h) ds).map PyData.list = some P := e
      cases z : mapO (toPy m h) ds <;> rw [z] at e' <;> cases e'
      cases q
def siP : D → PyData
  | .str w => .str w
  | .int i => .int i
  | _ => .none
theorem eqs_si {m : Nat} {h : Hm} : ∀ (ys xs : List D) (Ps : List PyData), mapO (toPy m h) xs = some Ps → ys.all siD = true → PyData.eqvAll (ys.map siP) Ps = true → (∀ x ∈ xs, ∀ b, x ≠ .bl b) → xs = ys
  | [], [], Ps, e, _, q, nb => rfl
  | [], x :: xs, Ps, e, _, q, nb => by
    unfold mapO at e
    split at e
    · cases e
      cases q
    · cases e
  | y :: ys, [], Ps, e, _, q, nb => by
    cases e
    cases q
  | y :: ys, x :: xs, Ps, e, hy, q, nb => by
    unfold mapO at e
    split at e
    · rename_i P Qs e1 e2
      cases e
      rw [List.map_cons, PyData.eqvAll, Bool.and_eq_true] at q
      rw [List.all_cons, Bool.and_eq_true] at hy
      have ih := eqs_si ys xs Qs e2 hy.2 q.2 fun z hz => nb z (List.mem_cons_of_mem _ hz)
      have hx : x = y := by
        cases y with
        | str w =>
          have q1 : PyData.eqv (.str w) P = true := q.1
          cases P <;> first | (cases q1; done) | skip
          rename_i w'
          have : w = w' := by simpa [PyData.eqv] using q1
          subst this
          exact py_str e1
        | int i =>
          rcases py_int e1 (show PyData.eqv (.int i) P = true from q.1) with z | ⟨b, z⟩
          · exact z
          · exact absurd z (nb x List.mem_cons_self b)
        | _ => cases hy.1
      rw [hx, ih]
    · cases e
theorem acP_eq (a : Ac) : acP a = .tuple ((acL a).map siP) := by cases a <;> rfl
theorem acL_si (a : Ac) : (acL a).all siD = true := by cases a <;> rfl
def isBl : D → Bool
  | .bl _ => true
  | _ => false
theorem isi_bool {n : Nat} {h : Hm} {x : D} (v : Vd n h x) : isiB "bool" h x = some (isBl x) := by
  cases x with
  | ref k =>
    cases n with
    | zero => exact False.elim v
    | succ n =>
      obtain ⟨ds, e, _⟩ := v
      rw [t_lst e]
      simp [kit_table, isBl]
  | scl _ => cases n <;> exact False.elim v
  | _ => simp [kit_table, isBl]
end Sh.k09

set_option linter.all false
set_option maxRecDepth 100000
namespace Sh.k09
open PySem L2 PyProof.Rows Sh
/-! the same as a str or an int, as a tuple of these -/
theorem same_si {n k : Nat} {h : Hm} {x y : D} (hx : Vd n h x) (hy : siD y = true) : m__law_same (k + 1) [x, y] h = .ok (.bl (decide (x = y))) h := by
  cases y with
  | str w =>
    cases x with
    | ref j =>
      cases n with
      | zero => exact False.elim hx
      | succ n =>
        obtain ⟨ds, e, _⟩ := hx
        simp [m__law_same, x_run, g__law_same, kit_table, t_lst e]
    | scl _ => cases n <;> exact False.elim hx
    | _ => simp [m__law_same, x_run, g__law_same, kit_table]
  | int i =>
    cases x with
    | ref j =>
      cases n with
      | zero => exact False.elim hx
      | succ n =>
        obtain ⟨ds, e, _⟩ := hx
        simp [m__law_same, x_run, g__law_same, kit_table, t_lst e]
    | scl _ => cases n <;> exact False.elim hx
    | _ => simp [m__law_same, x_run, g__law_same, kit_table]
  | _ => cases hy
theorem isi_tup {n : Nat} {h : Hm} {x : D} (v : Vd n h x) : isiB "tuple" h x = some (match x with | .tup _ => true | _ => false) := by
  cases x with
  | ref k =>
    cases n with
    | zero => exact False.elim v
    | succ n =>
      obtain ⟨ds, e, _⟩ := v
      rw [t_lst e]
      simp [kit_table]
  | scl _ => cases n <;> exact False.elim v
  | _ => simp [kit_table]
theorem same_sit {n k : Nat} {h : Hm} {x : D} {ys : List D} (hx : Vd (n + 1) h x) (hy : ys.all siD = true) (hl : ys.length < 1000000) : m__law_same (k + 2) [x, .tup ys] h = .ok (.bl (decide (x = .tup ys))) h := by
  have key : OK (m__law_same (k + 2) [x, .tup ys] h) fun d h' => d = .bl (decide (x = .tup ys)) ∧ h' = h := by
    refine ok_run ?_
    show NX (g__law_same (m__law_same (k + 1)) [some x, some (.tup ys), none] h) _ _
    unfold g__law_same
    refine nx_seq (nx_ifF (h1 := h) (by simp) (nx_next ?_))
    refine nx_seq (nx_ifF (h1 := h) (by simp) (nx_next ?_))
    refine nx_seq (nx_ifF (h1 := h) (by simp) (nx_next ?_))
    refine nx_seq (nx_ifF (h1 := h) (by simp [kit_table]) (nx_next ?_))
    refine nx_seq (nx_ifF (h1 := h) (by simp [kit_table]) (nx_next ?_))
    have it := isi_tup hx
    cases x with
    | tup xs =>
      refine nx_seq (nx_ifF (h1 := h) (by simp [kit_table]) (nx_next ?_))
      refine nx_seq (nx_ifF (h1 := h) (by simp [kit_table]) (nx_next ?_))
      refine nx_seq (nx_ifP (p := ¬ (xs.length : Int) = (ys.length : Int)) (h1 := h) (by simp) (fun hc => ?_) (fun hc => nx_next ?_))
      · refine nx_ret ?_
        simp -implicitDefEqProofs only [ok_ok, ok_bind, ok_tb, bl_bl, x_bin, x_args, evR_cons, evR_nil, x_var, x_c, ofO_some, x_and, x_or, x_not, x_eif, x_chain, x_lst, x_tup, x_isi, List.getElem?_cons_zero, List.getElem?_cons_succ, List.set_cons_zero, List.set_cons_succ, o_cmp, o_sub, o_add, o_int, o_is_n, o_is_b, o_isN_n, o_isN_b, q_int, nq_int]
        refine ⟨?_, trivial⟩
        have : ¬ D.tup xs = D.tup ys := fun z => by cases z; exact hc rfl
        simp [this]
      · have hlen : xs.length = ys.length := by omega
        refine nx_seq (nx_forR (n := ys.length) (h1 := h) (fun j s g => (∃ x2, s = [some (.tup xs), some (.tup ys), x2]) ∧ g = h ∧ ∀ i, i < j → xs[i]? = ys[i]?) (by omega) (by simp) ⟨⟨_, rfl⟩, rfl, fun i hi => by omega⟩ ?_ ?_)
        · rintro j _ g hj ⟨⟨x2, rfl⟩, rfl, hp⟩
          simp only [List.set_cons_zero, List.set_cons_succ]
          have e1 : xs[j]? = some xs[j] := List.getElem?_eq_getElem (by omega)
          have e2 : ys[j]? = some ys[j] := List.getElem?_eq_getElem hj
          have i1 : dIx (.tup xs) (.int (j : Nat)) g = .ok xs[j] g := ix_tup e1
          have i2 : dIx (.tup ys) (.int (j : Nat)) g = .ok ys[j] g := ix_tup e2
          have sm := same_si (k := k) (hx.2 xs[j] (List.getElem_mem _)) (List.all_eq_true.mp hy ys[j] (List.getElem_mem _))
          refine nx_ifP (p := ¬ xs[j] = ys[j]) (h1 := g) ?_ (fun hc => ?_) (fun hc => nx_next ?_)
          · simp -implicitDefEqProofs only [x_not, x_args, evR_cons, evR_nil, x_bin, x_var, List.getElem?_cons_zero, List.getElem?_cons_succ, ofO_some, RD.bind_ok, i1, i2, sm, tb_ok]
            simp
          · refine nx_ret ?_
            simp -implicitDefEqProofs only [ok_ok, ok_bind, ok_tb, bl_bl, x_bin, x_args, evR_cons, evR_nil, x_var, x_c, ofO_some, x_and, x_or, x_not, x_eif, x_chain, x_lst, x_tup, x_isi, List.getElem?_cons_zero, List.getElem?_cons_succ, List.set_cons_zero, List.set_cons_succ, o_cmp, o_sub, o_add, o_int, o_is_n, o_is_b, o_isN_n, o_isN_b, q_int, nq_int]
            refine ⟨?_, trivial⟩
            have : ¬ D.tup xs = D.tup ys := fun z => by cases z; exact hc rfl
            simp [this]
          · refine ⟨⟨_, rfl⟩, rfl, fun i hi => ?_⟩
            by_cases hij : i = j
            · subst hij
              rw [e1, e2]
              congr 1
              exact Decidable.not_not.mp hc
            · exact hp i (by omega)
        · rintro _ g ⟨⟨x2, rfl⟩, rfl, hp⟩
          refine nx_ret ?_
          simp -implicitDefEqProofs only [ok_ok, ok_bind, ok_tb, bl_bl, x_bin, x_args, evR_cons, evR_nil, x_var, x_c, ofO_some, x_and, x_or, x_not, x_eif, x_chain, x_lst, x_tup, x_isi, List.getElem?_cons_zero, List.getElem?_cons_succ, List.set_cons_zero, List.set_cons_succ, o_cmp, o_sub, o_add, o_int, o_is_n, o_is_b, o_isN_n, o_isN_b, q_int, nq_int]
          refine ⟨?_, trivial⟩
          have : xs = ys := by
            apply List.ext_getElem?
            intro i
            by_cases hi : i < ys.length
            · exact hp i hi
            · rw [List.getElem?_eq_none (by omega), List.getElem?_eq_none (by omega)]
          simp [this]
    | _ =>
      refine nx_seq (nx_ifT (h1 := h) ?_ ?_)
      · simp -implicitDefEqProofs only [x_and, x_not, x_isi, x_var, List.getElem?_cons_zero, List.getElem?_cons_succ, ofO_some, RD.bind_ok, it, t_tup, kit_table, tb_ok, if_true, Bool.not_false]
      · refine nx_ret ?_
        simp -implicitDefEqProofs only [ok_ok, ok_bind, ok_tb, bl_bl, x_bin, x_args, evR_cons, evR_nil, x_var, x_c, ofO_some, x_and, x_or, x_not, x_eif, x_chain, x_lst, x_tup, x_isi, List.getElem?_cons_zero, List.getElem?_cons_succ, List.set_cons_zero, List.set_cons_succ, o_cmp, o_sub, o_add, o_int, o_is_n, o_is_b, o_isN_n, o_isN_b, q_int, nq_int]
        simp
  obtain ⟨d, h', e, rfl, rfl⟩ := key.get
  exact e
theorem reps_si (f c : Int) : ∀ y ∈ repsD f c, siD y = true := by
  intro y hy
  unfold repsD at hy
  by_cases hf : 0 < f <;> by_cases hc : 0 < c <;> simp [hf, hc] at hy <;> rcases hy with rfl | hy <;> first | rfl | (rcases hy with rfl | hy <;> first | rfl | (rcases hy with rfl | rfl <;> rfl) | (subst hy; rfl)) | (subst hy; rfl)
theorem notin_no {n m : Nat} {h : Hm} {v : D} {f c : Int} (hm : m ≤ 20) (hv : Vd m h v) (e : h[n]? = some (.lst (repsD f c))) (hn : v ∉ repsD f c) : dNotIn v (.ref n) h = .ok (.bl true) h := by
  obtain ⟨P, p1, p2⟩ := vd_shaped hm hv
  have mp : mapO (toPy 19 h) (repsD f c) = some ((repsD f c).map siP) := by
    unfold repsD
    by_cases hf : 0 < f <;> by_cases hc : 0 < c <;> simp [hf, hc, mapO, toPy, siP]
  have h2 : toPy 20 h (.ref n) = some (.list ((repsD f c).map siP)) := by
    show (match h[n]? with
      | some (.lst ds) => (mapO (toPy 19 h) ds).map PyData.list
      | some (.scr ds) => (mapO (toPy 19 h) ds).map PyData.list
      | _ => none) = _
    rw [e]
    dsimp only
    rw [mp]
    rfl
  have sh : SeqAt.shaped (.list ((repsD f c).map siP)) = true := by
    have := (reps_dec (decide (0 < f)) (decide (0 < c)) .done).2.1
    have er : (repsD f c).map siP = repsP (decide (0 < f)) (decide (0 < c)) := by
      unfold repsD repsP
      by_cases hf : 0 < f <;> by_cases hc : 0 < c <;> simp [hf, hc, siP]
    rw [er]
    exact this
  have hany : (((repsD f c).map siP).any fun z => PyData.eqv z P) = false := by
    rw [List.any_eq_false]
    intro z hz q
    obtain ⟨y, hy, rfl⟩ := List.mem_map.mp hz
    have hstr : ∃ w, y = .str w := by
      unfold repsD at hy
      by_cases hf : 0 < f <;> by_cases hc : 0 < c <;> simp [hf, hc] at hy <;> rcases hy with rfl | hy <;> first | exact ⟨_, rfl⟩ | (rcases hy with rfl | hy <;> first | exact ⟨_, rfl⟩ | (rcases hy with rfl | rfl <;> exact ⟨_, rfl⟩) | (subst hy; exact ⟨_, rfl⟩)) | (subst hy; exact ⟨_, rfl⟩)
    obtain ⟨w, rfl⟩ := hstr
    have q1 : PyData.eqv (.str w) P = true := q
    cases P <;> first | (cases q1; done) | skip
    rename_i w'
    have : w = w' := by simpa [PyData.eqv] using q1
    subst this
    exact hn (py_str p1 ▸ hy)
  have : inB h v (.ref n) = some false := by
    unfold inB
    simp only [p1, h2]
    rw [if_pos ⟨p2, sh⟩, hany]
  simp only [dNotIn, this, Bool.not_false]
end Sh.k09

set_option linter.all false
set_option maxRecDepth 100000
namespace Sh.k09
open PySem L2 PyProof.Rows Sh
/-! the drawn values -/
def VQ (h : Hm) : D → Hm → Prop := fun d h' => ∃ t, h' = h ++ t ∧ Vd 3 h' d
theorem ix_mem {h : Hm} {n : Nat} {xs : List D} {i : Int} (e : h[n]? = some (.lst xs)) (hi : 0 ≤ i ∧ i < (xs.length : Int)) : ∃ x ∈ xs, dIx (.ref n) (.int i) h = .ok x h := by
  obtain ⟨k, rfl⟩ := Int.eq_ofNat_of_zero_le hi.1
  have hk : k < xs.length := by omega
  exact ⟨xs[k], List.getElem_mem hk, ix_ref e (List.getElem?_eq_getElem hk)⟩
def Fl (x : D) : Prop := ∀ n g, Vd n g x
theorem fl_non : Fl .non := fun n _ => by cases n <;> trivial
theorem fl_bl (b : Bool) : Fl (.bl b) := fun n _ => by cases n <;> trivial
theorem fl_int (b : Int) : Fl (.int b) := fun n _ => by cases n <;> trivial
theorem fl_str {s : Str} (h : PyData.canLay0 (.str s) = true) : Fl (.str s) := fun n _ => by cases n <;> exact h
theorem vd_odd {n : Nat} {g : Hm} (e0 : g[n]? = some (.lst [])) (e1 : g[n + 1]? = some (.lst [.int 0])) {x : D} (hx : x ∈ oddL n) : Vd 2 g x := by
  have l0 : PyData.canLay0 (.str "") = true := by decide +kernel
  have l1 : PyData.canLay0 (.str "0") = true := by decide +kernel
  have l2 : PyData.canLay0 (.str "free") = true := by decide +kernel
  have l3 : PyData.canLay0 (.str "write") = true := by decide +kernel
  have l4 : PyData.canLay0 (.str "ever") = true := by decide +kernel
  simp only [oddL, List.mem_cons, List.not_mem_nil, or_false] at hx
  rcases hx with rfl | rfl | rfl | rfl | rfl | rfl | rfl | rfl | rfl | rfl | rfl | rfl | rfl | rfl | rfl | rfl
  · exact fl_non _ _
  · exact fl_bl _ _ _
  · exact fl_bl _ _ _
  · exact fl_int _ _ _
  · exact fl_int _ _ _
  · exact fl_int _ _ _
  · exact fl_str l0 _ _
  · exact fl_str l1 _ _
  · exact fl_str l2 _ _
  · exact ⟨by decide, fun d hd => by cases hd⟩
  · exact ⟨by decide, fun d hd => by simp at hd; subst hd; exact fl_int _ _ _⟩
  · exact ⟨[], e0, by decide, fun d hd => by cases hd⟩
  · exact ⟨[.int 0], e1, by decide, fun d hd => by simp at hd; subst hd; exact fl_int _ _ _⟩
  · exact ⟨by decide, fun d hd => by simp at hd; rcases hd with rfl | rfl; exact fl_str l3 _ _; exact fl_int _ _ _⟩
  · exact fl_str l4 _ _
  · exact fl_int _ _ _
theorem odd_val (d : Int) (h : Hm) : ∃ x t, m__law_odd [.int d] h = .ok x (h ++ t) ∧ ∀ g : Hm, (∀ m, h.length ≤ m → m < h.length + 2 → g[m]? = (h ++ t)[m]?) → Vd 2 g x := by
  obtain ⟨x, hx, e⟩ := x_odd d h
  refine ⟨x, _, e, fun g hg => vd_odd (n := h.length) ?_ ?_ hx⟩
  · rw [hg _ (by omega) (by omega)]; simp
  · rw [hg _ (by omega) (by omega)]; simp
theorem set_midH {h t : Hm} {o o' : O} : (h ++ o :: t).set h.length o' = h ++ o' :: t := by
  rw [List.set_append_right _ _ (Nat.le_refl _), Nat.sub_self]
  rfl
theorem nx_kF {k j : Int} {ga gb2 : FS} {s : DS} {h : Hm} {N : DS → Hm → Prop} {T : D → Hm → Prop} (hne : ¬ k = j) (hs : s[1]? = some (some (.int k))) (x : NX (gb2 s h) N T) : NX (gSeq (gIf (eBin dEq (eVar 1) (eC (.int j))) ga gNext) gb2 s h) N T := by
  refine nx_seq (nx_ifF (h1 := h) ?_ (nx_next x))
  rw [x_bin, x_var, hs, ofO_some, RD.bind_ok, x_c, RD.bind_ok, q_int, decide_eq_false hne]
theorem nx_kT {k : Int} {ga gb2 : FS} {s : DS} {h : Hm} {N : DS → Hm → Prop} {T : D → Hm → Prop} (hs : s[1]? = some (some (.int k))) (x : NX (ga s h) (fun s1 h1 => NX (gb2 s1 h1) N T) T) : NX (gSeq (gIf (eBin dEq (eVar 1) (eC (.int k))) ga gNext) gb2 s h) N T := by
  refine nx_seq (nx_ifT (h1 := h) ?_ x)
  rw [x_bin, x_var, hs, ofO_some, RD.bind_ok, x_c, RD.bind_ok, q_int, decide_eq_true rfl]
theorem bent_end {s : DS} {g h : Hm} {n : Nat} {xs : List D} {N : DS → Hm → Prop} (hs : s[4]? = some (some (.ref n))) (e : g[n]? = some (.lst xs)) (hg : ∃ t, g = h ++ t) (hl : xs.length < 1000000) (hv : ∀ x ∈ xs, Vd 2 g x) : NX (gRet (eArgs bTuple [(eVar 4)]) s g) N (VQ h) := by
  refine nx_ret (OK.of (d := .tup xs) (h := g) ?_ ?_)
  · rw [x_args, evR_cons, x_var, hs, ofO_some, RD.bind_ok, evR_nil, tup_ref e]
  · obtain ⟨t, rfl⟩ := hg
    exact ⟨t, rfl, hl, hv⟩
theorem sl_toL {h : Hm} {n k : Nat} {i : Int} {xs : List D} (e : h[n]? = some (.lst xs)) (hi : i = (k : Int)) : dSl (.ref n) none (some i) h = .ok (.ref h.length) (h ++ [.lst (xs.take k)]) := by
  subst hi
  simp only [dSl, e, cutD, HT.sIx_none, HT.sIx_nat]
  by_cases hk : k ≤ xs.length
  · rw [Nat.min_eq_left hk]
    simp
  · rw [Nat.min_eq_right (by omega), List.take_of_length_le (by simp), List.take_of_length_le (by omega)]
    simp
end Sh.k09

set_option linter.all false
set_option maxRecDepth 100000
namespace Sh.k09
open PySem L2 PyProof.Rows Sh
def rgI (n : Nat) : List Int := (List.range n).map fun i : Nat => (i : Int)
/-- an order of 0 .. n - 1 -/
def OrdV (v : D) (n : Nat) : Prop := ∃ l : List Int, v = .tup (l.map D.int) ∧ ascI l = rgI n
def cntB : D → Bool
  | .int i => decide (0 ≤ i)
  | _ => false
theorem x_count {n : Nat} {h : Hm} {x : D} (v : Vd n h x) : m_is_count [x] h = .ok (.bl (cntB x)) h := by
  cases x with
  | ref k =>
    cases n with
    | zero => exact False.elim v
    | succ n =>
      obtain ⟨ds, e, _⟩ := v
      simp [m_is_count, x_run, g_is_count, kit_table, t_lst e, cntB]
  | scl _ => cases n <;> exact False.elim v
  | _ => simp [m_is_count, x_run, g_is_count, kit_table, cntB]
theorem cnt_ints : ∀ xs : List D, (∀ x ∈ xs, cntB x = true) → ∃ l : List Int, xs = l.map D.int
  | [], _ => ⟨[], rfl⟩
  | x :: xs, h => by
    obtain ⟨l, e⟩ := cnt_ints xs fun y hy => h y (List.mem_cons_of_mem _ hy)
    have hx := h x List.mem_cons_self
    cases x <;> first | (cases hx; done) | skip
    rename_i i
    exact ⟨i :: l, by rw [e]; rfl⟩
theorem rg_mem {n : Nat} {i : Int} : i ∈ rgI n ↔ 0 ≤ i ∧ i < (n : Int) := by
  unfold rgI
  rw [List.mem_map]
  constructor
  · rintro ⟨k, hk, rfl⟩
    have := List.mem_range.mp hk
    omega
  · rintro ⟨h0, h1⟩
    obtain ⟨k, rfl⟩ := Int.eq_ofNat_of_zero_le h0
    exact ⟨k, List.mem_range.mpr (by omega), rfl⟩
theorem ord_mem {l : List Int} {n : Nat} (e : ascI l = rgI n) {i : Int} : i ∈ l ↔ 0 ≤ i ∧ i < (n : Int) := by
  rw [← (ascI_perm l).mem_iff, e, rg_mem]
theorem ord_len {l : List Int} {n : Nat} (e : ascI l = rgI n) : l.length = n := by
  rw [← (ascI_perm l).length_eq, e]
  simp [rgI]
theorem sort_eq {s : DS} {h : Hm} {l : List Int} {n : Nat} (hn : n < 1000000) (h0 : s[0]? = some (some (.tup (l.map D.int)))) (h1 : s[1]? = some (some (.int (n : Int)))) :
    ∃ t, (eBin dEq (eArgs bSortI [(eVar 0)]) (eListRg (eVar 1))) s h = .ok (.bl (decide (ascI l = rgI n))) (h ++ t) := by
  have e1 : bSortI [.tup (l.map D.int)] h = .ok (.ref h.length) (h ++ [.lst ((ascI l).map D.int)]) := by
    unfold bSortI
    simp only [items, intsD_map]
  have e2 : (eListRg (eVar 1)) s (h ++ [.lst ((ascI l).map D.int)]) = .ok (.ref (h ++ [O.lst ((ascI l).map D.int)]).length) (h ++ [.lst ((ascI l).map D.int)] ++ [.lst ((rgI n).map D.int)]) := by
    have er : rgD 0 (n : Int) = (rgI n).map D.int := by simp [rgD, rgI]
    show ((eVar 1) s (h ++ [.lst ((ascI l).map D.int)])).bind bListRg = _
    rw [x_var, h1, ofO_some, RD.bind_ok]
    unfold bListRg
    dsimp only
    rw [if_pos ⟨by omega, by omega⟩, er]
  refine ⟨[.lst ((ascI l).map D.int)] ++ [.lst ((rgI n).map D.int)], ?_⟩
  rw [x_bin, x_args, evR_cons, x_var, h0, ofO_some, RD.bind_ok, evR_nil, e1, RD.bind_ok, e2, RD.bind_ok]
  rw [eq_ints (l := ascI l) (r := rgI n) (old get_last) get_last, List.append_assoc]
theorem all_count {xs : List D} {h : Hm} {s : DS} (hs : s[0]? = some (some (.tup xs))) (hl : xs.length < 1000000) (hw : (wipeD s [2])[0]? = some (some (.tup xs)) ∧ ∀ x, ((wipeD s [2]).set 2 (some x))[2]? = some (some x)) (hv : ∀ x ∈ xs, Vd 2 h x) :
    ∃ t, (eArgs bAll [(eLc (fiSeq (eVar 0)) (tName 2) (eC (.bl true)) (eArgs m_is_count [(eVar 2)]) [2])]) s h = .ok (.bl (xs.all cntB)) (h ++ t) := by
  obtain ⟨t2, r⟩ := elc_ok (fi := fiSeq (eVar 0)) (gt := tName 2) (ft := eC (.bl true)) (fe := eArgs m_is_count [(eVar 2)]) (own := [2]) (s := s) (h := h) (ck := none) (xs := xs) (val := fun x => .bl (cntB x)) (tt := fun _ => true)
    (fi_tup (by rw [x_var, hs, ofO_some])) (fun _ => rfl) (fun x hx u => by
      refine ⟨(wipeD s [2]).set 2 (some x), [], rfl, rfl, fun _ => ?_⟩
      rw [x_args, evR_cons, x_var, hw.2 x, ofO_some, RD.bind_ok, evR_nil, x_count (vd_old (t := u) (hv x hx)), List.append_nil]) hl
  have er : (xs.filter fun _ => true).map (fun x => D.bl (cntB x)) = (xs.map cntB).map D.bl := by
    rw [List.filter_eq_self.mpr (fun _ _ => rfl), List.map_map]
    rfl
  rw [er] at r
  refine ⟨.lst ((xs.map cntB).map D.bl) :: t2, ?_⟩
  rw [x_args, evR_cons, r, RD.bind_ok, evR_nil]
  refine (quant_ok (g := fun bs => bs.all id) (bs := xs.map cntB) (by simp)).trans ?_
  have : (xs.map cntB).all id = xs.all cntB := by rw [List.all_map]; rfl
  rw [this]
theorem int_map_inj : ∀ {l r : List Int}, l.map D.int = r.map D.int → l = r
  | [], [], _ => rfl
  | a :: l, b :: r, e => by
    simp only [List.map_cons, List.cons.injEq, D.int.injEq] at e
    rw [e.1, int_map_inj e.2]
theorem isi_tupB {n : Nat} {h : Hm} {x : D} (v : Vd n h x) : isiB "tuple" h x = some (match x with | .tup _ => true | _ => false) := isi_tup v
/-- the program's word of an order -/
theorem x_isorder {h : Hm} {v : D} {n : Nat} (hn : n < 1000000) (hv : Vd 3 h v) : ∃ b t, m_is_order [v, .int (n : Int)] h = .ok (.bl b) (h ++ t) ∧ (b = true ↔ OrdV v n) := by
  suffices key : OK (m_is_order [v, .int (n : Int)] h) fun d h' => ∃ b t, d = .bl b ∧ h' = h ++ t ∧ (b = true ↔ OrdV v n) by
    obtain ⟨d, h', e, b, t, rfl, rfl, q⟩ := key.get
    exact ⟨b, t, e, q⟩
  refine ok_run ?_
  show NX (g_is_order [some v, some (.int (n : Int)), none] h) _ _
  unfold g_is_order
  have it := isi_tup hv
  have no : (∀ xs, v ≠ .tup xs) → NX (gSeq (gIf (eOr (eNot (eIsi "tuple" (eVar 0))) (eNot (eArgs bAll [(eLc (fiSeq (eVar 0)) (tName 2) (eC (.bl true)) (eArgs m_is_count [(eVar 2)]) [2])]))) (gRet (eC (.bl false))) gNext) (gRet (eBin dEq (eArgs bSortI [(eVar 0)]) (eListRg (eVar 1)))) [some v, some (.int (n : Int)), none] h) (fun _ h1 => ∃ b t, D.non = .bl b ∧ h1 = h ++ t ∧ (b = true ↔ OrdV v n)) (fun d h' => ∃ b t, d = .bl b ∧ h' = h ++ t ∧ (b = true ↔ OrdV v n)) := by
    intro nt
    have it' : isiB "tuple" h v = some false := by
      rw [it]
      cases v with
      | tup xs => exact absurd rfl (nt xs)
      | _ => rfl
    refine nx_seq (nx_ifT (h1 := h) ?_ (nx_ret ?_))
    · simp -implicitDefEqProofs only [x_or, x_not, x_isi, x_var, List.getElem?_cons_zero, ofO_some, RD.bind_ok, it', tb_ok, Bool.not_false, if_true]
    · simp -implicitDefEqProofs only [ok_ok, ok_bind, ok_tb, bl_bl, x_bin, x_args, evR_cons, evR_nil, x_var, x_c, ofO_some, x_and, x_or, x_not, x_eif, x_chain, x_lst, x_tup, x_isi, List.getElem?_cons_zero, List.getElem?_cons_succ, List.set_cons_zero, List.set_cons_succ, o_cmp, o_sub, o_add, o_int, o_is_n, o_is_b, o_isN_n, o_isN_b, q_int, nq_int]
      exact ⟨false, [], rfl, by simp, fun z => (by cases z), fun ⟨l, e, _⟩ => absurd e (nt _)⟩
  cases v with
  | tup xs =>
    obtain ⟨t1, e1⟩ := all_count (s := [some (.tup xs), some (.int (n : Int)), none]) (h := h) rfl hv.1 ⟨rfl, fun _ => rfl⟩ hv.2
    refine nx_seq (nx_ifP (p := ¬ xs.all cntB = true) (h1 := h ++ t1) ?_ (fun hc => ?_) (fun hc => nx_next ?_))
    · simp -implicitDefEqProofs only [x_or, x_not, x_isi, x_var, List.getElem?_cons_zero, ofO_some, RD.bind_ok, t_tup, kit_table, tb_ok, Bool.not_true, Bool.false_eq_true, if_false, e1]
      cases xs.all cntB <;> rfl
    · refine nx_ret ?_
      simp -implicitDefEqProofs only [ok_ok, ok_bind, ok_tb, bl_bl, x_bin, x_args, evR_cons, evR_nil, x_var, x_c, ofO_some, x_and, x_or, x_not, x_eif, x_chain, x_lst, x_tup, x_isi, List.getElem?_cons_zero, List.getElem?_cons_succ, List.set_cons_zero, List.set_cons_succ, o_cmp, o_sub, o_add, o_int, o_is_n, o_is_b, o_isN_n, o_isN_b, q_int, nq_int]
      refine ⟨false, t1, rfl, rfl, fun z => (by cases z), fun ⟨l, e, ea⟩ => ?_⟩
      cases e
      refine absurd (List.all_eq_true.mpr fun x hx => ?_) hc
      obtain ⟨i, hi, rfl⟩ := List.mem_map.mp hx
      exact decide_eq_true ((ord_mem ea).mp hi).1
    · obtain ⟨l, rfl⟩ := cnt_ints xs (List.all_eq_true.mp (Decidable.not_not.mp hc))
      obtain ⟨t2, e2⟩ := sort_eq (s := [some (.tup (l.map D.int)), some (.int (n : Int)), none]) (h := h ++ t1) hn rfl rfl
      refine nx_ret (OK.of e2 ⟨_, t1 ++ t2, rfl, by rw [List.append_assoc], ?_⟩)
      rw [decide_eq_true_iff]
      constructor
      · exact fun e => ⟨l, rfl, e⟩
      · rintro ⟨r, er, ea⟩
        have : l = r := int_map_inj (D.tup.inj er)
        rw [this]
        exact ea
  | _ => exact no fun xs z => by cases z
end Sh.k09

set_option linter.all false
set_option maxRecDepth 100000
namespace Sh.k09
open PySem L2 PyProof.Rows Sh
def inB_ (n : Int) : D → Bool
  | .int i => decide (0 ≤ i ∧ i ≤ n - 1)
  | _ => false
theorem x_isint {k : Nat} {h : Hm} {x : D} (n : Int) (v : Vd k h x) : m__law_is_int [x, .int 0, .int (n - 1)] h = .ok (.bl (inB_ n x)) h := by
  cases x with
  | ref j =>
    cases k with
    | zero => exact False.elim v
    | succ k =>
      obtain ⟨ds, e, _⟩ := v
      simp [m__law_is_int, x_run, g__law_is_int, kit_table, t_lst e, inB_]
  | scl _ => cases k <;> exact False.elim v
  | int i => exact x_li i 0 (n - 1) h
  | _ => simp [m__law_is_int, x_run, g__law_is_int, kit_table, inB_]
theorem in_ints (n : Int) : ∀ xs : List D, (∀ x ∈ xs, inB_ n x = true) → ∃ l : List Int, xs = l.map D.int
  | [], _ => ⟨[], rfl⟩
  | x :: xs, h => by
    obtain ⟨l, e⟩ := in_ints n xs fun y hy => h y (List.mem_cons_of_mem _ hy)
    have hx := h x List.mem_cons_self
    cases x <;> first | (cases hx; done) | skip
    rename_i i
    exact ⟨i :: l, by rw [e]; rfl⟩
abbrev ordBody : FS := gIf (eNot (eArgs m__law_is_int [(eVar 2), (eC (.int 0)), (eBin dSub (eVar 1) (eC (.int 1)))])) (gRet (eC (.bl false))) gNext
theorem ord_loop {v : D} {n : Int} {h : Hm} : ∀ (ys : List D) (x2 : Option D), (∀ x ∈ ys, Vd 2 h x) →
    NX (loopG none (tName 2) ordBody ys [some v, some (.int n), x2] h) (fun s h1 => (∃ x2, s = [some v, some (.int n), x2]) ∧ h1 = h ∧ ∀ x ∈ ys, inB_ n x = true) (fun d h1 => d = .bl false ∧ h1 = h ∧ ∃ x ∈ ys, inB_ n x = false)
  | [], x2, _ => by
    rw [loop_nil chk_none]
    exact .nx ⟨⟨_, rfl⟩, rfl, fun x hx => by cases hx⟩
  | y :: ys, x2, hv => by
    rw [loop_cons chk_none (s1 := [some v, some (.int n), some y]) (h1 := h) rfl]
    have e := x_isint n (hv y List.mem_cons_self)
    cases hb : inB_ n y with
    | false =>
      rw [hb] at e
      have : ordBody [some v, some (.int n), some y] h = .rt (.bl false) h := by
        simp -implicitDefEqProofs only [ordBody, x_if, x_not, x_args, evR_cons, evR_nil, x_bin, x_var, x_c, List.getElem?_cons_zero, List.getElem?_cons_succ, ofO_some, RD.bind_ok, o_sub, e, tb_ok, Bool.not_false, tst_ok, if_true, x_ret, RD.st_ok]
      rw [this]
      exact .rt ⟨rfl, rfl, y, List.mem_cons_self, hb⟩
    | true =>
      rw [hb] at e
      have : ordBody [some v, some (.int n), some y] h = .nx [some v, some (.int n), some y] h := by
        simp -implicitDefEqProofs only [ordBody, x_if, x_not, x_args, evR_cons, evR_nil, x_bin, x_var, x_c, List.getElem?_cons_zero, List.getElem?_cons_succ, ofO_some, RD.bind_ok, o_sub, e, tb_ok, Bool.not_true, tst_ok, Bool.false_eq_true, if_false, x_next]
      rw [this]
      refine NX.mono (ord_loop ys (some y) fun x hx => hv x (List.mem_cons_of_mem _ hx)) ?_ ?_
      · rintro _ _ ⟨⟨x2, rfl⟩, rfl, hall⟩
        exact ⟨⟨x2, rfl⟩, rfl, fun x hx => by
          rcases List.mem_cons.mp hx with rfl | hx
          · exact hb
          · exact hall x hx⟩
      · rintro _ _ ⟨rfl, rfl, x, hx, q⟩
        exact ⟨rfl, rfl, x, List.mem_cons_of_mem _ hx, q⟩
/-- the law's word of an order -/
theorem x_lawisorder {h : Hm} {v : D} {n : Nat} (hn : n < 1000000) (hv : Vd 3 h v) : ∃ b t, m__law_is_order [v, .int (n : Int)] h = .ok (.bl b) (h ++ t) ∧ (b = true ↔ OrdV v n) := by
  suffices key : OK (m__law_is_order [v, .int (n : Int)] h) fun d h' => ∃ b t, d = .bl b ∧ h' = h ++ t ∧ (b = true ↔ OrdV v n) by
    obtain ⟨d, h', e, b, t, rfl, rfl, q⟩ := key.get
    exact ⟨b, t, e, q⟩
  refine ok_run ?_
  show NX (g__law_is_order [some v, some (.int (n : Int)), none] h) _ _
  unfold g__law_is_order
  have it := isi_tup hv
  have no : isiB "tuple" h v = some false → (∀ xs, v ≠ .tup xs) → ∀ {gb : FS}, NX (gSeq (gIf (eOr (eNot (eIsi "tuple" (eVar 0))) (eBin dNe (eArgs bLen [(eVar 0)]) (eVar 1))) (gRet (eC (.bl false))) gNext) gb [some v, some (.int (n : Int)), none] h) (fun _ h1 => ∃ b t, D.non = .bl b ∧ h1 = h ++ t ∧ (b = true ↔ OrdV v n)) (fun d h' => ∃ b t, d = .bl b ∧ h' = h ++ t ∧ (b = true ↔ OrdV v n)) := by
    intro it' nt gb
    refine nx_seq (nx_ifT (h1 := h) ?_ (nx_ret ?_))
    · simp -implicitDefEqProofs only [x_or, x_not, x_isi, x_var, List.getElem?_cons_zero, ofO_some, RD.bind_ok, it', tb_ok, Bool.not_false, if_true]
    · simp -implicitDefEqProofs only [ok_ok, ok_bind, ok_tb, bl_bl, x_bin, x_args, evR_cons, evR_nil, x_var, x_c, ofO_some, x_and, x_or, x_not, x_eif, x_chain, x_lst, x_tup, x_isi, List.getElem?_cons_zero, List.getElem?_cons_succ, List.set_cons_zero, List.set_cons_succ, o_cmp, o_sub, o_add, o_int, o_is_n, o_is_b, o_isN_n, o_isN_b, q_int, nq_int]
      exact ⟨false, [], rfl, by simp, fun z => (by cases z), fun ⟨l, e, _⟩ => absurd e (nt _)⟩
  cases v with
  | tup xs =>
    have hlen : bLen [.tup xs] h = .ok (.int (xs.length : Nat)) h := rfl
    refine nx_seq (nx_ifP (p := ¬ (xs.length : Int) = (n : Int)) (h1 := h) ?_ (fun hc => ?_) (fun hc => nx_next ?_))
    · simp -implicitDefEqProofs only [x_or, x_not, x_isi, x_bin, x_args, evR_cons, evR_nil, x_var, List.getElem?_cons_zero, List.getElem?_cons_succ, ofO_some, RD.bind_ok, t_tup, kit_table, tb_ok, Bool.not_true, Bool.false_eq_true, if_false, hlen, nq_int, decide_not]
    · refine nx_ret ?_
      simp -implicitDefEqProofs only [ok_ok, ok_bind, ok_tb, bl_bl, x_bin, x_args, evR_cons, evR_nil, x_var, x_c, ofO_some, x_and, x_or, x_not, x_eif, x_chain, x_lst, x_tup, x_isi, List.getElem?_cons_zero, List.getElem?_cons_succ, List.set_cons_zero, List.set_cons_succ, o_cmp, o_sub, o_add, o_int, o_is_n, o_is_b, o_isN_n, o_isN_b, q_int, nq_int]
      refine ⟨false, [], rfl, by simp, fun z => (by cases z), fun ⟨l, e, ea⟩ => ?_⟩
      cases e
      refine absurd ?_ hc
      rw [List.length_map, ord_len ea]
    · have hxl : xs.length = n := by omega
      refine nx_seq (NX.mono (N := fun s h1 => (∃ x2, s = [some (.tup xs), some (.int (n : Int)), x2]) ∧ h1 = h ∧ ∀ x ∈ xs, inB_ n x = true) (T := fun d h1 => d = .bl false ∧ h1 = h ∧ ∃ x ∈ xs, inB_ n x = false) ?_ ?_ ?_)
      · rw [for_ok (fi_tup (xs := xs) rfl)]
        exact ord_loop xs none hv.2
      · rintro _ _ ⟨⟨x2, rfl⟩, rfl, hall⟩
        rename_i h
        obtain ⟨l, rfl⟩ := in_ints n xs hall
        obtain ⟨t2, e2⟩ := sort_eq (s := [some (.tup (l.map D.int)), some (.int (n : Int)), x2]) (h := h) hn rfl rfl
        refine nx_ret (OK.of e2 ⟨_, t2, rfl, rfl, ?_⟩)
        rw [decide_eq_true_iff]
        constructor
        · exact fun e => ⟨l, rfl, e⟩
        · rintro ⟨r, er, ea⟩
          have : l = r := int_map_inj (D.tup.inj er)
          rw [this]
          exact ea
      · rintro _ _ ⟨rfl, rfl, x, hx, hb⟩
        refine ⟨false, [], rfl, by simp, fun z => (by cases z), fun ⟨l, e, ea⟩ => ?_⟩
        cases e
        obtain ⟨i, hi, rfl⟩ := List.mem_map.mp hx
        have := (ord_mem ea).mp hi
        have : inB_ n (.int i) = true := decide_eq_true (by omega)
        rw [this] at hb
        cases hb
  | ref k => exact no it fun xs z => by cases z
  | scl _ => exact no it fun xs z => by cases z
  | non => exact no it fun xs z => by cases z
  | bl _ => exact no it fun xs z => by cases z
  | int _ => exact no it fun xs z => by cases z
  | str _ => exact no it fun xs z => by cases z
end Sh.k09

set_option linter.all false
set_option maxRecDepth 100000
namespace Sh.k09
open PySem L2 PyProof.Rows Sh
/-- [e for x in xs], e with effects, the list xs stays -/
theorem ok_lcI {gt : GT} {ft fe : FE} {p : Nat} {s0 : DS} {ck : Option (Nat × List D)} {Q : D → Hm → Prop} {xs0 : List D} (I : Nat → List D → Hm → Prop) (hb : xs0.length < 1000000) (hck : ∀ j acc h, I j acc h → chkB ck h = true) (hl : ∀ j acc h, I j acc h → acc.length = j ∧ h[p]? = some (.lst acc))
    (turn : ∀ j x acc h, xs0[j]? = some x → I j acc h → ∃ s1, gt x s0 h = .nx s1 h ∧ ft s1 h = .ok (.bl true) h ∧ OK (fe s1 h) fun d h3 => h3[p]? = some (.lst acc) ∧ I (j + 1) (acc ++ [d]) (h3.set p (.lst (acc ++ [d])))) :
    ∀ (m j : Nat) (acc : List D) (h : Hm), j + m = xs0.length → I j acc h → (∀ acc h, I xs0.length acc h → Q (.ref p) h) → OK (lcLoop ck gt ft fe p s0 (xs0.drop j) h) Q
  | 0, j, acc, h, e, i0, fin => by
    have : j = xs0.length := by omega
    subst this
    rw [List.drop_length]
    unfold lcLoop
    rw [if_pos (hck _ _ _ i0)]
    exact .mk (fin _ _ i0)
  | m + 1, j, acc, h, e, i0, fin => by
    have hj : j < xs0.length := by omega
    obtain ⟨s1, e1, e2, x⟩ := turn j _ acc h (List.getElem?_eq_getElem hj) i0
    obtain ⟨d, h3, e3, e4, q⟩ := x.get
    rw [List.drop_eq_getElem_cons hj]
    unfold lcLoop
    rw [if_pos (hck _ _ _ i0), e1]
    dsimp only
    rw [e2]
    dsimp only
    rw [e3]
    dsimp only
    rw [e4]
    dsimp only
    have hlt : acc.length < big := by
      have := (hl _ _ _ i0).1
      show acc.length < 1000000
      omega
    rw [if_pos hlt]
    exact ok_lcI I hb hck hl turn m (j + 1) _ _ (by omega) q fin
theorem rg_asc (n : Nat) : (rgI n).Pairwise (· ≤ ·) := by
  unfold rgI
  rw [List.pairwise_map]
  exact (List.pairwise_lt_range).imp fun h => by omega
theorem ord_of_perm {l : List Int} {n : Nat} (p : l.Perm (rgI n)) : ascI l = rgI n := perm_asc ((ascI_perm l).trans p) (ascI_asc l) (rg_asc n)
theorem ord_perm {l : List Int} {n : Nat} (e : ascI l = rgI n) : l.Perm (rgI n) := e ▸ (ascI_perm l).symm
def szs (n : Nat) : List Int := (List.range n).map fun k : Nat => (n : Int) - (k : Int)
theorem dig_at : ∀ {ds zs : List Int}, Dig ds zs → ∀ (k : Nat) (d z : Int), ds[k]? = some d → zs[k]? = some z → 0 ≤ d ∧ d < z
  | [], [], _, k, d, z, h1, _ => by simp at h1
  | d :: ds, z :: zs, h, 0, _, _, h1, h2 => by cases h1; cases h2; exact h.1
  | d :: ds, z :: zs, h, k + 1, _, _, h1, h2 => dig_at h.2 k _ _ (by simpa using h1) (by simpa using h2)
theorem er_map : ∀ (l : List Int) (k : Nat), (l.map D.int).eraseIdx k = (l.eraseIdx k).map D.int
  | [], _ => rfl
  | a :: l, 0 => rfl
  | a :: l, k + 1 => by simp only [List.map_cons, List.eraseIdx_cons_succ, er_map l k]
theorem eri_perm : ∀ (l : List Int) (k : Nat) (x : Int), l[k]? = some x → (x :: l.eraseIdx k).Perm l
  | [], _, _, e => by simp at e
  | a :: l, 0, x, e => by cases e; exact List.Perm.refl _
  | a :: l, k + 1, x, e => (List.Perm.swap a x _).trans (List.Perm.cons a (eri_perm l k x (by simpa using e)))
theorem x_laworder (c : Int) (n : Nat) (hn : n < 400) (h : Hm) : ∃ (l : List Int) (t : Hm), m__law_order [.int c, .int (n : Int)] h = .ok (.tup (l.map D.int)) (h ++ t) ∧ ascI l = rgI n := by
  suffices key : OK (m__law_order [.int c, .int (n : Int)] h) fun d h' => ∃ (l : List Int) (t : Hm), d = .tup (l.map D.int) ∧ h' = h ++ t ∧ ascI l = rgI n by
    obtain ⟨d, h', e, l, t, rfl, rfl, q⟩ := key.get
    exact ⟨l, t, e, q⟩
  refine ok_run ?_
  show NX (g__law_order [some (.int c), some (.int (n : Int)), none, none, none, none] h) _ _
  unfold g__law_order
  obtain ⟨t2, r⟩ := elc_ok (fi := fiRg [(eVar 1)]) (gt := tName 4) (ft := eC (.bl true)) (fe := eBin dSub (eVar 1) (eVar 4)) (own := [4]) (s := [some (.int c), some (.int (n : Int)), none, none, none, none]) (h := h) (ck := none) (xs := (List.range n).map fun i => D.int (i : Nat)) (val := fun x => match x with | .int k => .int ((n : Int) - k) | d => d) (tt := fun _ => true)
    (by rw [fi_rg (h1 := h) (j := (n : Int)) rfl (by omega) (by omega), Int.toNat_natCast]) (fun _ => rfl) (fun x hx u => by
      obtain ⟨k, _, rfl⟩ := List.mem_map.mp hx
      refine ⟨[some (.int c), some (.int (n : Int)), none, none, some (.int (k : Nat)), none], [], rfl, rfl, fun _ => ?_⟩
      rw [List.append_nil]
      rfl) (by simp; omega)
  have er : (((List.range n).map fun i => D.int (i : Nat)).filter fun _ => true).map (fun x => match x with | .int k => D.int ((n : Int) - k) | d => d) = (szs n).map D.int := by
    rw [List.filter_eq_self.mpr (fun _ _ => rfl), List.map_map]
    unfold szs
    rw [List.map_map]
    rfl
  rw [er] at r
  generalize hH : h ++ .lst ((szs n).map D.int) :: t2 = H at r
  have eH : H[h.length]? = some (.lst ((szs n).map D.int)) := by rw [← hH]; simp
  have hHh : ∃ u, H = h ++ u := ⟨_, hH.symm⟩
  obtain ⟨ds, hD, ed⟩ := x_digits H h.length (szs n) eH c (by
    intro z hz
    obtain ⟨k, hk, rfl⟩ := List.mem_map.mp hz
    have := List.mem_range.mp hk
    omega) (by simp [szs]; omega)
  have hdl : ds.length = n := by rw [dig_len hD]; simp [szs]
  refine nx_seq (nx_set ?_)
  simp -implicitDefEqProofs only [ok_ok, ok_bind, ok_tb, bl_bl, x_bin, x_args, evR_cons, evR_nil, x_var, x_c, ofO_some, x_and, x_or, x_not, x_eif, x_chain, x_lst, x_tup, x_isi, List.getElem?_cons_zero, List.getElem?_cons_succ, List.set_cons_zero, List.set_cons_succ, o_cmp, o_sub, o_add, o_int, o_is_n, o_is_b, o_isN_n, o_isN_b, q_int, nq_int, r, ed]
  generalize hp : H.length = nd
  have e2 : (eListRg (eVar 1)) [some (.int c), some (.int (n : Int)), some (.ref nd), none, none, none] (H ++ [.lst (ds.map D.int)]) = .ok (.ref (H ++ [O.lst (ds.map D.int)]).length) (H ++ [.lst (ds.map D.int)] ++ [.lst ((rgI n).map D.int)]) := by
    have er : rgD 0 (n : Int) = (rgI n).map D.int := by simp [rgD, rgI]
    show bListRg (.int (n : Int)) _ = _
    unfold bListRg
    dsimp only
    rw [if_pos ⟨by omega, by omega⟩, er]
  refine nx_seq (nx_set (OK.of e2 ?_))
  simp -implicitDefEqProofs only [List.set_cons_zero, List.set_cons_succ]
  have hpr : (H ++ [O.lst (ds.map D.int)]).length = nd + 1 := by rw [← hp]; simp
  rw [hpr]
  obtain ⟨G, hG⟩ : ∃ G, G = H ++ [.lst (ds.map D.int)] ++ [.lst ((rgI n).map D.int)] := ⟨_, rfl⟩
  rw [← hG]
  have gD : G[nd]? = some (.lst (ds.map D.int)) := by rw [hG, ← hp]; exact old get_last
  have gR : G[nd + 1]? = some (.lst ((rgI n).map D.int)) := by rw [hG, ← hpr]; exact get_last
  have gl : G.length = nd + 2 := by rw [hG, ← hp]; simp
  refine nx_ret ?_
  rw [x_args, evR_cons, ok_bind]
  have lc : OK ((eLc (fiSeq (eVar 2)) (tName 5) (eC (.bl true)) (eLm lPopAt (eVar 3) [(eVar 5)]) [5]) [some (.int c), some (.int (n : Int)), some (.ref nd), some (.ref (nd + 1)), none, none] G) (fun d h' => ∃ (l : List Int) (t : Hm), d = .ref (nd + 2) ∧ h' = h ++ t ∧ h'[nd + 2]? = some (.lst (l.map D.int)) ∧ ascI l = rgI n) := by
    unfold eLc
    rw [fi_ref rfl gD]
    dsimp only
    have hd0 : (ds.map D.int) = (ds.map D.int).drop 0 := rfl
    rw [hd0, gl]
    refine ok_lcI (xs0 := ds.map D.int) (p := nd + 2) (fun j acc g => ∃ (as rs : List Int) (t : Hm), acc = as.map D.int ∧ as.length = j ∧ rs.length = n - j ∧ (as ++ rs).Perm (rgI n) ∧ g = h ++ t ∧ g[nd]? = some (.lst (ds.map D.int)) ∧ g[nd + 1]? = some (.lst (rs.map D.int)) ∧ g[nd + 2]? = some (.lst acc) ∧ h.length ≤ nd) (by simp; omega) ?_ ?_ ?_ ds.length 0 [] _ (by simp) ?_ ?_
    · rintro j acc g ⟨as, rs, t, _, _, _, _, _, q, _⟩
      exact chk_ref q
    · rintro j acc g ⟨as, rs, t, rfl, h1, _, _, _, _, _, q, _⟩
      exact ⟨by simpa using h1, q⟩
    · rintro j x acc g hx ⟨as, rs, t, rfl, h1, h2, h3, rfl, q1, q2, q3, hnd⟩
      rw [List.getElem?_map] at hx
      obtain ⟨d, hdj, rfl⟩ := Option.map_eq_some_iff.mp hx
      have hjn : j < n := by have := (List.getElem?_eq_some_iff.mp hdj).1; omega
      have hz : (szs n)[j]? = some ((n : Int) - (j : Int)) := by
        unfold szs
        rw [List.getElem?_map, List.getElem?_range hjn]
        rfl
      have hb := dig_at hD j d _ hdj hz
      obtain ⟨k, rfl⟩ := Int.eq_ofNat_of_zero_le hb.1
      have hk : k < rs.length := by omega
      obtain ⟨x, hxk⟩ : ∃ x, rs[k]? = some x := ⟨_, List.getElem?_eq_getElem hk⟩
      have hrk : (rs.map D.int)[((k : Nat) : Int).toNat]? = some (.int x) := by
        rw [Int.toNat_natCast, List.getElem?_map, hxk]
        rfl
      have po := pop_ok (n := nd + 1) (h := h ++ t) hb.1 (by omega) hrk
      rw [Int.toNat_natCast] at po
      have em : (rs.map D.int).eraseIdx k = (rs.eraseIdx k).map D.int := er_map rs k
      rw [em] at po
      refine ⟨[some (.int c), some (.int (n : Int)), some (.ref nd), some (.ref (nd + 1)), none, some (.int (k : Nat))], rfl, rfl, OK.of (d := .int x) (h := (h ++ t).set (nd + 1) (.lst ((rs.eraseIdx k).map D.int))) ?_ ⟨?_, as ++ [x], rs.eraseIdx k, ?_⟩⟩
      · rw [x_lm, x_var]
        show lmB lPopAt (.ref (nd + 1)) [eVar 5] _ _ = _
        rw [lmB_ref q2, evR_cons, x_var]
        simp -implicitDefEqProofs only [List.getElem?_cons_zero, List.getElem?_cons_succ, ofO_some, RD.bind_ok]
        rw [evR_nil, lmC_ok q2, po]
      · rw [List.getElem?_set_ne (by omega)]
        exact q3
      · have l1 : nd + 1 < (h ++ t).length := lt_of_get q2
        have l2 : nd + 2 < (h ++ t).length := lt_of_get q3
        obtain ⟨t', ht'⟩ : ∃ t', ((h ++ t).set (nd + 1) (.lst ((rs.eraseIdx k).map D.int))).set (nd + 2) (.lst (as.map D.int ++ [.int x])) = h ++ t' := by
          rw [List.set_append_right _ _ (by omega), List.set_append_right _ _ (by omega)]
          exact ⟨_, rfl⟩
        refine ⟨t', by simp, by simp [h1], by rw [List.length_eraseIdx_of_lt hk]; omega, ?_, ht', ?_, ?_, ?_, hnd⟩
        · refine List.Perm.trans ?_ h3
          rw [List.append_assoc]
          refine List.Perm.append_left as ?_
          exact eri_perm rs k x hxk
        · rw [List.getElem?_set_ne (by omega), List.getElem?_set_ne (by omega)]
          exact q1
        · rw [List.getElem?_set_ne (by omega)]
          exact List.getElem?_set_self l1
        · exact List.getElem?_set_self (by rw [List.length_set]; exact l2)
    · obtain ⟨u, hu⟩ := hHh
      refine ⟨[], rgI n, u ++ [.lst (ds.map D.int)] ++ [.lst ((rgI n).map D.int)] ++ [.lst []], rfl, rfl, by simp [rgI], List.Perm.refl _, by rw [hG, hu]; simp, old gD, old gR, by rw [← gl]; exact get_last, ?_⟩
      rw [← hp, hu]
      simp
    · rintro acc g ⟨as, rs, t, rfl, h1, h2, h3, rfl, q1, q2, q3, hnd⟩
      have hr0 : rs = [] := List.length_eq_zero_iff.mp (by rw [h2, List.length_map, hdl]; omega)
      subst hr0
      rw [List.append_nil] at h3
      exact ⟨as, t, rfl, rfl, q3, ord_of_perm h3⟩
  refine lc.mono ?_
  rintro d h' ⟨l, t, rfl, rfl, e3, e4⟩
  rw [evR_nil]
  exact OK.of (tup_ref e3) ⟨l, t, rfl, rfl, e4⟩
end Sh.k09

set_option linter.all false
set_option maxRecDepth 100000
namespace Sh.k09
open PySem L2 PyProof.Rows Sh
theorem nx_vF {v : Nat} {k j : Int} {ga gb2 : FS} {s : DS} {h : Hm} {N : DS → Hm → Prop} {T : D → Hm → Prop} (hne : ¬ k = j) (hs : s[v]? = some (some (.int k))) (x : NX (gb2 s h) N T) : NX (gSeq (gIf (eBin dEq (eVar v) (eC (.int j))) ga gNext) gb2 s h) N T := by
  refine nx_seq (nx_ifF (h1 := h) ?_ (nx_next x))
  rw [x_bin, x_var, hs, ofO_some, RD.bind_ok, x_c, RD.bind_ok, q_int, decide_eq_false hne]
theorem nx_vT {v : Nat} {k : Int} {ga gb2 : FS} {s : DS} {h : Hm} {N : DS → Hm → Prop} {T : D → Hm → Prop} (hs : s[v]? = some (some (.int k))) (x : NX (ga s h) (fun s1 h1 => NX (gb2 s1 h1) N T) T) : NX (gSeq (gIf (eBin dEq (eVar v) (eC (.int k))) ga gNext) gb2 s h) N T := by
  refine nx_seq (nx_ifT (h1 := h) ?_ x)
  rw [x_bin, x_var, hs, ofO_some, RD.bind_ok, x_c, RD.bind_ok, q_int, decide_eq_true rfl]
theorem VQ.up {h t : Hm} {d : D} {h' : Hm} (v : VQ (h ++ t) d h') : VQ h d h' := by
  obtain ⟨u, rfl, hv⟩ := v
  exact ⟨t ++ u, by rw [List.append_assoc], hv⟩
theorem odd_ok (i : Int) (h : Hm) : OK (m__law_odd [.int i] h) (VQ h) := by
  obtain ⟨x, t, e, hv⟩ := odd_val i h
  exact OK.of e ⟨t, rfl, vd_up (hv _ fun m _ _ => rfl)⟩
theorem ob_end {s : DS} {g h : Hm} {n : Nat} {xs : List D} {N : DS → Hm → Prop} (hs : s[5]? = some (some (.ref n))) (e : g[n]? = some (.lst xs)) (hg : ∃ t, g = h ++ t) (hl : xs.length < 1000000) (hv : ∀ x ∈ xs, Vd 2 g x) : NX (gRet (eArgs bTuple [(eVar 5)]) s g) N (VQ h) := by
  refine nx_ret (OK.of (d := .tup xs) (h := g) ?_ ?_)
  · rw [x_args, evR_cons, x_var, hs, ofO_some, RD.bind_ok, evR_nil, tup_ref e]
  · obtain ⟨t, rfl⟩ := hg
    exact ⟨t, rfl, hl, hv⟩
theorem x_orderbent {l : List Int} (w1 : 1 ≤ l.length) (w2 : l.length ≤ 400) (c : Int) (h0 : Hm) : OK (m__law_order_bent [.tup (l.map D.int), .int c] h0) (VQ h0) := by
  obtain ⟨xs, hxs⟩ : ∃ xs, xs = l.map D.int := ⟨_, rfl⟩
  have hlen : xs.length = l.length := by rw [hxs]; simp
  have hint : ∀ x ∈ xs, ∃ i, x = .int i := fun x hx => by
    rw [hxs] at hx
    obtain ⟨i, _, rfl⟩ := List.mem_map.mp hx
    exact ⟨i, rfl⟩
  have hfl : ∀ x ∈ xs, Fl x := fun x hx => by
    obtain ⟨i, rfl⟩ := hint x hx
    exact fl_int i
  rw [← hxs]
  clear hxs
  refine ok_run ?_
  show NX (g__law_order_bent [some (.tup xs), some (.int c), none, none, none, none, none] h0) _ _
  unfold g__law_order_bent
  have hz : (h0 ++ [O.lst (([12, 9, 16] : List Int).map D.int)])[h0.length]? = some (.lst (([12, 9, 16] : List Int).map D.int)) := get_last
  obtain ⟨ds, hD, ed⟩ := x_digits (h0 ++ [O.lst (([12, 9, 16] : List Int).map D.int)]) h0.length [12, 9, 16] hz c (by intro z hz; simp at hz; omega) (by simp)
  have hdl := dig_len hD
  obtain ⟨kind, place, od, rfl⟩ : ∃ d0 d1 d2, ds = [d0, d1, d2] := by
    match ds, hdl with
    | [d0, d1, d2], _ => exact ⟨d0, d1, d2, rfl⟩
  obtain ⟨b0, b1, b2, _⟩ := hD
  have ed' : m__law_digits [.int c, .ref h0.length] (h0 ++ [O.lst [.int 12, .int 9, .int 16]]) = .ok (.ref (h0 ++ [O.lst [.int 12, .int 9, .int 16]]).length) (h0 ++ [O.lst [.int 12, .int 9, .int 16]] ++ [.lst [.int kind, .int place, .int od]]) := ed
  obtain ⟨h, hh⟩ : ∃ h, h = h0 ++ [O.lst [.int 12, .int 9, .int 16]] ++ [.lst [.int kind, .int place, .int od]] := ⟨_, rfl⟩
  have asg : gAsg (eArgs m__law_digits [(eVar 1), (eLst [(eC (.int 12)), (eC (.int 9)), (eC (.int 16))])]) (tTup [(tName 2), (tName 3), (tName 4)]) [some (.tup xs), some (.int c), none, none, none, none, none] h0 = .nx [some (.tup xs), some (.int c), some (.int kind), some (.int place), some (.int od), none, none] h := by
    have e1 : (eArgs m__law_digits [(eVar 1), (eLst [(eC (.int 12)), (eC (.int 9)), (eC (.int 16))])]) [some (.tup xs), some (.int c), none, none, none, none, none] h0 = .ok (.ref (h0 ++ [O.lst [.int 12, .int 9, .int 16]]).length) h := by
      simp -implicitDefEqProofs only [x_args, evR_cons, evR_nil, x_var, x_lst, x_c, List.getElem?_cons_zero, List.getElem?_cons_succ, ofO_some, RD.bind_ok, ed', hh]
    have e2 : h[(h0 ++ [O.lst [.int 12, .int 9, .int 16]]).length]? = some (.lst [.int kind, .int place, .int od]) := by rw [hh]; exact get_last
    unfold gAsg
    rw [e1]
    show (match tTup _ (.ref _) _ _ with | .nx s2 h2 => RT.nx s2 h2 | _ => .bad) = _
    unfold tTup
    dsimp only
    rw [e2]
    rfl
  have up : ∀ d h', VQ h d h' → VQ h0 d h' := fun d h' v => by
    rw [hh, List.append_assoc] at v
    exact v.up
  refine NX.mono (N := fun _ h1 => VQ h0 .non h1) (T := VQ h) ?_ (fun _ _ z => z) up
  rw [x_seq, asg, seq_nx]
  have bl : bList [.tup xs] h = .ok (.ref h.length) (h ++ [.lst xs]) := by simp [bList, items]
  refine nx_seq (nx_set ?_)
  simp -implicitDefEqProofs only [ok_ok, ok_bind, ok_tb, bl_bl, x_bin, x_args, evR_cons, evR_nil, x_var, x_c, ofO_some, x_and, x_or, x_not, x_eif, x_chain, x_lst, x_tup, x_isi, List.getElem?_cons_zero, List.getElem?_cons_succ, List.set_cons_zero, List.set_cons_succ, o_cmp, o_sub, o_add, o_int, o_is_n, o_is_b, o_isN_n, o_isN_b, q_int, nq_int, bl]
  have e0 : (h ++ [O.lst xs])[h.length]? = some (.lst xs) := by simp
  have el : ∀ {g : Hm} {ys : List D}, g[h.length]? = some (.lst ys) → bLen [.ref h.length] g = .ok (.int (ys.length : Nat)) g := fun e => len_ref e
  have hL : (0 : Int) < (xs.length : Int) := by omega
  refine nx_seq (nx_set ?_)
  simp -implicitDefEqProofs only [ok_ok, ok_bind, ok_tb, bl_bl, x_bin, x_args, evR_cons, evR_nil, x_var, x_c, ofO_some, x_and, x_or, x_not, x_eif, x_chain, x_lst, x_tup, x_isi, List.getElem?_cons_zero, List.getElem?_cons_succ, List.set_cons_zero, List.set_cons_succ, o_cmp, o_sub, o_add, o_int, o_is_n, o_is_b, o_isN_n, o_isN_b, q_int, nq_int, el e0, o_mod, if_pos hL]
  obtain ⟨j, hj⟩ := Int.eq_ofNat_of_zero_le (Int.emod_nonneg place (show ((xs.length : Nat) : Int) ≠ 0 by omega))
  have hjl := Int.emod_lt_of_pos place hL
  have hjx : j < xs.length := by omega
  rw [hj]
  have hmem : xs[j] ∈ xs := List.getElem_mem hjx
  obtain ⟨i, hi⟩ := hint _ hmem
  have hix : dIx (.ref h.length) (.int (j : Int)) (h ++ [O.lst xs]) = .ok (.int i) (h ++ [O.lst xs]) := ix_ref e0 (by rw [List.getElem?_eq_getElem hjx, hi])
  have hmem0 : xs[0] ∈ xs := List.getElem_mem (by omega)
  obtain ⟨i0, hi0⟩ := hint _ hmem0
  have hix0 : dIx (.ref h.length) (.int 0) (h ++ [O.lst xs]) = .ok (.int i0) (h ++ [O.lst xs]) := ix_ref (k := 0) e0 (by rw [List.getElem?_eq_getElem (by omega), hi0])
  have hset : ∀ {i : Nat} {v x : D}, x ∈ xs.set i v → Fl v → Fl x := fun hx hv => by
    rcases List.mem_or_eq_of_mem_set hx with hx | hx
    · exact hfl _ hx
    · exact hx ▸ hv
  have ends : ∀ {N : DS → Hm → Prop} {s : DS} {v : D} (i : Nat), s[5]? = some (some (.ref h.length)) → Fl v → NX (gRet (eArgs bTuple [(eVar 5)]) s (h ++ [O.lst (xs.set i v)])) N (VQ h) := fun {N s v} i hs hv =>
    ob_end (xs := xs.set i v) hs (by simp) ⟨_, rfl⟩ (by rw [List.length_set]; omega) fun x hx => hset hx hv _ _
  obtain ⟨k, rfl⟩ := Int.eq_ofNat_of_zero_le b0.1
  have hk12 : k < 12 := by omega
  have d1 : ∀ {a b : Nat}, a ≠ b → ¬ ((a : Nat) : Int) = ((b : Nat) : Int) := fun h z => h (by omega)
  by_cases q0 : k = 0
  · subst q0
    refine nx_vT rfl (nx_ret ?_)
    simp -implicitDefEqProofs only [ok_ok, ok_bind, ok_tb, bl_bl, x_bin, x_args, evR_cons, evR_nil, x_var, x_c, ofO_some, x_and, x_or, x_not, x_eif, x_chain, x_lst, x_tup, x_isi, List.getElem?_cons_zero, List.getElem?_cons_succ, List.set_cons_zero, List.set_cons_succ, o_cmp, o_sub, o_add, o_int, o_is_n, o_is_b, o_isN_n, o_isN_b, q_int, nq_int]
    exact ⟨_, rfl, xs, e0, by omega, fun x hx => hfl x hx _ _⟩
  refine nx_vF (by omega) rfl ?_
  by_cases q1 : k = 1
  · subst q1
    refine nx_vT rfl (nx_lput ?_)
    simp -implicitDefEqProofs only [ok_ok, ok_bind, ok_tb, bl_bl, x_bin, x_args, evR_cons, evR_nil, x_var, x_c, ofO_some, x_and, x_or, x_not, x_eif, x_chain, x_lst, x_tup, x_isi, List.getElem?_cons_zero, List.getElem?_cons_succ, List.set_cons_zero, List.set_cons_succ, o_cmp, o_sub, o_add, o_int, o_is_n, o_is_b, o_isN_n, o_isN_b, q_int, nq_int, hix0]
    refine ⟨h.length, j, xs, rfl, rfl, e0, hjx, ?_⟩
    rw [set_midH]
    refine nx_vF (by decide) rfl (nx_vF (by decide) rfl (nx_vF (by decide) rfl (nx_vF (by decide) rfl (nx_vF (by decide) rfl (nx_vF (by decide) rfl ?_)))))
    exact ends _ rfl (fl_int _)
  refine nx_vF (by omega) rfl ?_
  by_cases q2 : k = 2
  · subst q2
    refine nx_vT rfl (nx_drop (ok_append ?_))
    simp -implicitDefEqProofs only [ok_ok, ok_bind, ok_tb, bl_bl, x_bin, x_args, evR_cons, evR_nil, x_var, x_c, ofO_some, x_and, x_or, x_not, x_eif, x_chain, x_lst, x_tup, x_isi, List.getElem?_cons_zero, List.getElem?_cons_succ, List.set_cons_zero, List.set_cons_succ, o_cmp, o_sub, o_add, o_int, o_is_n, o_is_b, o_isN_n, o_isN_b, q_int, nq_int]
    refine ⟨h.length, xs, rfl, e0, ?_⟩
    simp -implicitDefEqProofs only [ok_ok, ok_bind, ok_tb, bl_bl, x_bin, x_args, evR_cons, evR_nil, x_var, x_c, ofO_some, x_and, x_or, x_not, x_eif, x_chain, x_lst, x_tup, x_isi, List.getElem?_cons_zero, List.getElem?_cons_succ, List.set_cons_zero, List.set_cons_succ, o_cmp, o_sub, o_add, o_int, o_is_n, o_is_b, o_isN_n, o_isN_b, q_int, nq_int, el e0]
    refine ⟨xs, e0, by omega, ?_⟩
    rw [set_midH]
    refine nx_vF (by decide) rfl (nx_vF (by decide) rfl (nx_vF (by decide) rfl (nx_vF (by decide) rfl (nx_vF (by decide) rfl ?_))))
    exact ob_end rfl get_last ⟨_, rfl⟩ (by rw [List.length_append, List.length_singleton]; omega) fun x hx => by
      rcases List.mem_append.mp hx with hx | hx
      · exact hfl x hx _ _
      · simp at hx; subst hx; exact fl_int _ _ _
  refine nx_vF (by omega) rfl ?_
  by_cases q3 : k = 3
  · subst q3
    have sl := sl_toL (k := xs.length - 1) (i := (xs.length : Int) - 1) e0 (by omega)
    refine nx_vT rfl (nx_set ?_)
    refine OK.of (d := .ref (h ++ [O.lst xs]).length) (h := h ++ [O.lst xs] ++ [.lst (xs.take (xs.length - 1))]) ?_ ?_
    · simp -implicitDefEqProofs only [x_slT, x_bin, x_args, evR_cons, evR_nil, x_var, x_c, List.getElem?_cons_zero, List.getElem?_cons_succ, ofO_some, RD.bind_ok, el e0, o_sub, sl]
    simp -implicitDefEqProofs only [List.set_cons_zero, List.set_cons_succ]
    refine nx_vF (by decide) rfl (nx_vF (by decide) rfl (nx_vF (by decide) rfl (nx_vF (by decide) rfl ?_)))
    exact ob_end rfl get_last ⟨_, List.append_assoc ..⟩ (by rw [List.length_take]; omega) fun x hx => hfl x (List.mem_of_mem_take hx) _ _
  refine nx_vF (by omega) rfl ?_
  by_cases q4 : k = 4
  · subst q4
    refine nx_vT rfl (nx_lput ?_)
    simp -implicitDefEqProofs only [ok_ok, ok_bind, ok_tb, bl_bl, x_bin, x_args, evR_cons, evR_nil, x_var, x_c, ofO_some, x_and, x_or, x_not, x_eif, x_chain, x_lst, x_tup, x_isi, List.getElem?_cons_zero, List.getElem?_cons_succ, List.set_cons_zero, List.set_cons_succ, o_cmp, o_sub, o_add, o_int, o_is_n, o_is_b, o_isN_n, o_isN_b, q_int, nq_int, hix]
    refine ⟨h.length, j, xs, rfl, rfl, e0, hjx, ?_⟩
    rw [set_midH]
    refine nx_vF (by decide) rfl (nx_vF (by decide) rfl (nx_vF (by decide) rfl ?_))
    exact ends _ rfl (fl_bl _)
  refine nx_vF (by omega) rfl ?_
  by_cases q5 : k = 5
  · subst q5
    refine nx_vT rfl (nx_lput ?_)
    obtain ⟨x, t, ex, hv⟩ := odd_val od (h ++ [O.lst xs])
    simp -implicitDefEqProofs only [ok_ok, ok_bind, ok_tb, bl_bl, x_bin, x_args, evR_cons, evR_nil, x_var, x_c, ofO_some, x_and, x_or, x_not, x_eif, x_chain, x_lst, x_tup, x_isi, List.getElem?_cons_zero, List.getElem?_cons_succ, List.set_cons_zero, List.set_cons_succ, o_cmp, o_sub, o_add, o_int, o_is_n, o_is_b, o_isN_n, o_isN_b, q_int, nq_int, ex]
    refine ⟨h.length, j, xs, rfl, rfl, old e0, hjx, ?_⟩
    rw [List.append_assoc, List.singleton_append, set_midH]
    refine nx_vF (by decide) rfl (nx_vF (by decide) rfl ?_)
    refine ob_end rfl get_mid ⟨_, rfl⟩ (by rw [List.length_set]; omega) fun y hy => ?_
    rcases List.mem_or_eq_of_mem_set hy with hy | hy
    · exact hfl y hy _ _
    · subst hy
      refine hv _ fun m m1 m2 => ?_
      rw [List.length_append, List.length_singleton] at m1
      rw [List.append_assoc, List.getElem?_append_right (by omega), List.getElem?_append_right (by omega), List.singleton_append]
      have : m - h.length = (m - h.length - 1) + 1 := by omega
      rw [this, List.getElem?_cons_succ, List.getElem?_cons_succ]
  refine nx_vF (by omega) rfl ?_
  by_cases q6 : k = 6
  · subst q6
    refine nx_vT rfl (nx_ret ?_)
    simp -implicitDefEqProofs only [ok_ok, ok_bind, ok_tb, bl_bl, x_bin, x_args, evR_cons, evR_nil, x_var, x_c, ofO_some, x_and, x_or, x_not, x_eif, x_chain, x_lst, x_tup, x_isi, List.getElem?_cons_zero, List.getElem?_cons_succ, List.set_cons_zero, List.set_cons_succ, o_cmp, o_sub, o_add, o_int, o_is_n, o_is_b, o_isN_n, o_isN_b, q_int, nq_int]
    exact (odd_ok od (h ++ [O.lst xs])).mono fun d h' v => v.up
  refine nx_vF (by omega) rfl ?_
  by_cases q7 : k = 7
  · subst q7
    refine nx_vT rfl (nx_lput ?_)
    simp -implicitDefEqProofs only [ok_ok, ok_bind, ok_tb, bl_bl, x_bin, x_args, evR_cons, evR_nil, x_var, x_c, ofO_some, x_and, x_or, x_not, x_eif, x_chain, x_lst, x_tup, x_isi, List.getElem?_cons_zero, List.getElem?_cons_succ, List.set_cons_zero, List.set_cons_succ, o_cmp, o_sub, o_add, o_int, o_is_n, o_is_b, o_isN_n, o_isN_b, q_int, nq_int, hix]
    refine ⟨h.length, j, xs, rfl, rfl, e0, hjx, ?_⟩
    rw [set_midH]
    exact ends _ rfl (fl_int _)
  refine nx_vF (by omega) rfl ?_
  exact ob_end rfl get_last ⟨_, rfl⟩ (by omega) fun x hx => hfl x hx _ _
end Sh.k09

set_option linter.all false
set_option maxRecDepth 100000
namespace Sh.k09
open PySem L2 PyProof.Rows Sh
/-! the renamed stand -/
def plc (lk : List Int) (k : Int) : Int := ((lk.idxOf k : Nat) : Int)
def pgR (lk : List Int) : Pg → Pg
  | .key k => .key (plc lk k)
  | p => p
def bkR (lk : List Int) (b : Lf × List Pg) : Lf × List Pg := (b.1, b.2.map (pgR lk))
def blkAt (S : Sd) (b : Int) : Lf × List Pg := S.blocks.getD b.toNat (.bad, [])
def renS (S : Sd) (lb lk : List Int) : Sd := { S with blocks := lb.map fun b => bkR lk (blkAt S b), due := S.due.map (plc lk) }
theorem keysOf_map (lk : List Int) : ∀ ps : List Pg, keysOf (ps.map (pgR lk)) = (keysOf ps).map (plc lk)
  | [] => rfl
  | .key k :: ps => by simp only [List.map_cons, pgR, keysOf, keysOf_map lk ps]
  | .free :: ps => by simp only [List.map_cons, pgR, keysOf, keysOf_map lk ps]
  | .old :: ps => by simp only [List.map_cons, pgR, keysOf, keysOf_map lk ps]
theorem blk_rg (S : Sd) (lk : List Int) : (rgI S.blocks.length).map (fun b => bkR lk (blkAt S b)) = S.blocks.map (bkR lk) := by
  apply List.ext_getElem
  · simp [rgI]
  · intro i h1 h2
    have hi : i < S.blocks.length := by simpa using h2
    simp [rgI, blkAt, hi]
theorem ren_perm {S : Sd} {lb lk : List Int} (eb : ascI lb = rgI S.blocks.length) : (renS S lb lk).blocks.Perm (S.blocks.map (bkR lk)) := by
  have := (ord_perm eb).map fun b => bkR lk (blkAt S b)
  rw [blk_rg] at this
  exact this
theorem plc_lt {lk : List Int} {k : Int} (h : k ∈ lk) : 0 ≤ plc lk k ∧ plc lk k < (lk.length : Int) := by
  have := List.idxOf_lt_length_iff.mpr h
  unfold plc
  omega
theorem plc_inj {lk : List Int} {a b : Int} (ha : a ∈ lk) (hb : b ∈ lk) (e : plc lk a = plc lk b) : a = b := by
  unfold plc at e
  have e' : lk.idxOf a = lk.idxOf b := by omega
  have h1 := List.getElem_idxOf (List.idxOf_lt_length_iff.mpr ha)
  have h2 := List.getElem_idxOf (List.idxOf_lt_length_iff.mpr hb)
  rw [← h1, ← h2]
  congr 1
theorem allKeys_bkR (lk : List Int) : ∀ bs : List (Lf × List Pg), allKeys (bs.map (bkR lk)) = (allKeys bs).map (plc lk)
  | [] => rfl
  | b :: bs => by
    have ih := allKeys_bkR lk bs
    unfold allKeys at ih ⊢
    simp only [List.map_cons, List.flatten_cons, List.map_append, ih, bkR, keysOf_map]
theorem allKeys_perm {a b : List (Lf × List Pg)} (p : a.Perm b) : (allKeys a).Perm (allKeys b) := (p.map _).flatten
theorem nodup_inj {f : Int → Int} : ∀ {l : List Int}, l.Nodup → (∀ a ∈ l, ∀ b ∈ l, f a = f b → a = b) → (l.map f).Nodup
  | [], _, _ => List.nodup_nil
  | a :: l, h, k => by
    rw [List.nodup_cons] at h
    rw [List.map_cons, List.nodup_cons]
    refine ⟨fun z => ?_, nodup_inj h.2 fun x hx y hy => k x (List.mem_cons_of_mem _ hx) y (List.mem_cons_of_mem _ hy)⟩
    obtain ⟨b, hb, e⟩ := List.mem_map.mp z
    have := k b (List.mem_cons_of_mem _ hb) a List.mem_cons_self e
    subst this
    exact h.1 hb
theorem bk_ren {pages : Nat} {b : Lf × List Pg} (lk : List Int) (h : BkOk pages b) : BkOk pages (bkR lk b) := by
  obtain ⟨h1, h2, w, h3, h4, h5⟩ := h
  refine ⟨h1, by rw [← h2]; exact List.length_map .., w, h3, h4, fun i p e => ?_⟩
  have e' : (b.2.map (pgR lk))[i]? = some p := e
  rw [List.getElem?_map] at e'
  obtain ⟨p0, e0, rfl⟩ := Option.map_eq_some_iff.mp e'
  rw [h5 i p0 e0]
  cases p0 <;> simp [pgR]
theorem ren_ok {S : Sd} {pages : Nat} {lb lk : List Int} (o : SdOk S pages) (eb : ascI lb = rgI S.blocks.length) (ek : ascI lk = rgI S.keys.toNat) : SdOk (renS S lb lk) pages := by
  have kin : ∀ k, (0 ≤ k ∧ k < S.keys) → k ∈ lk := fun k h => (ord_mem ek).mpr (by have := o.k1; omega)
  have klen : lk.length = S.keys.toNat := ord_len ek
  have hlen : (renS S lb lk).blocks.length = S.blocks.length := by
    show (lb.map _).length = _
    rw [List.length_map, ord_len eb]
  have hp := ren_perm (lk := lk) eb
  have hk := allKeys_perm hp
  rw [allKeys_bkR] at hk
  refine ⟨o.k1, o.k2, by rw [hlen]; exact o.b1, by rw [hlen]; exact o.b2, o.p1, o.p2, fun b hb => ?_, ?_, fun k h => ?_, o.f, o.c, fun k h => ?_⟩
  · obtain ⟨b0, h0, rfl⟩ := List.mem_map.mp (hp.mem_iff.mp hb)
    exact bk_ren lk (o.bk b0 h0)
  · exact hk.symm.nodup (nodup_inj o.nd fun a ha b hb e => plc_inj (kin a (o.kr a ha)) (kin b (o.kr b hb)) e)
  · obtain ⟨k0, h0, rfl⟩ := List.mem_map.mp (hk.mem_iff.mp h)
    have := plc_lt (kin k0 (o.kr k0 h0))
    have := o.k1
    show 0 ≤ _ ∧ _ < S.keys
    omega
  · obtain ⟨k0, h0, rfl⟩ := Option.map_eq_some_iff.mp (show S.due.map (plc lk) = some k from h)
    have := plc_lt (kin k0 (o.d k0 h0))
    have := o.k1
    show 0 ≤ _ ∧ _ < S.keys
    omega
end Sh.k09

set_option linter.all false
set_option maxRecDepth 100000
namespace Sh.k09
open PySem L2 PyProof.Rows Sh
theorem find_int {k : Int} : ∀ {lk : List Int}, k ∈ lk → (lk.map D.int).findIdx? (fun z => eqF z (.int k)) = some (lk.idxOf k)
  | a :: lk, h => by
    by_cases e : a = k
    · subst e
      simp [List.findIdx?_cons, eqF]
    · have hk : k ∈ lk := by
        rcases List.mem_cons.mp h with z | z
        · exact absurd z.symm e
        · exact z
      rw [List.map_cons, List.findIdx?_cons, find_int hk, List.idxOf_cons]
      have q : (a == k) = false := by simpa using e
      rw [q]
      simp [eqF, e]
theorem t_index {lk : List Int} {k : Int} (h : Hm) (hk : k ∈ lk) : tIndex (lk.map D.int) [.int k] h = .ok (.int (plc lk k)) h := by
  have hf : (lk.map D.int).all flatD = true := List.all_eq_true.mpr fun x hx => by
    obtain ⟨i, _, rfl⟩ := List.mem_map.mp hx
    rfl
  unfold tIndex
  dsimp only
  rw [if_pos ⟨rfl, hf⟩, find_int hk]
  rfl
theorem e_index {lk : List Int} {k : Int} {a b : Nat} {s : DS} {h : Hm} (ha : s[a]? = some (some (.tup (lk.map D.int)))) (hb : s[b]? = some (some (.int k))) (hk : k ∈ lk) : eTm tIndex (eVar a) [(eVar b)] s h = .ok (.int (plc lk k)) h := by
  have := t_index h hk
  unfold eTm
  rw [x_var, ha, ofO_some]
  simp -implicitDefEqProofs only [RD.bind_ok, x_args, evR_cons, evR_nil, x_var, hb, ofO_some, this]
/-- [page if it is a word else its key's place] -/
theorem pages_ren {lb lk : List Int} {S : Sd} {ps : List Pg} (hk : ∀ k ∈ keysOf ps, k ∈ lk) (hl : ps.length < 1000000) {x3 x4 x5 x7 x8 : Option D} (h : Hm) :
    ∃ t, (eArgs bTuple [(eLc (fiSeq (eVar 6)) (tName 8) (eC (.bl true)) (eIf (eIsi "str" (eVar 8)) (eVar 8) (eTm tIndex (eVar 2) [(eVar 8)])) [8])]) [some S.enc, some (.tup (lb.map D.int)), some (.tup (lk.map D.int)), x3, x4, x5, some (.tup (ps.map pD)), x7, x8] h = .ok (.tup ((ps.map (pgR lk)).map pD)) (h ++ t) := by
  have hmem : ∀ x ∈ ps.map pD, ∃ p ∈ ps, x = pD p := fun x hx => by
    obtain ⟨p, hp, rfl⟩ := List.mem_map.mp hx
    exact ⟨p, hp, rfl⟩
  have kmem : ∀ {ps : List Pg} {k : Int}, Pg.key k ∈ ps → k ∈ keysOf ps := by
    intro ps
    induction ps with
    | nil => intro k h; cases h
    | cons p ps ih =>
      intro k h
      rcases List.mem_cons.mp h with z | z
      · subst z; exact List.mem_cons_self
      · cases p <;> first | exact ih z | exact List.mem_cons_of_mem _ (ih z)
  obtain ⟨t2, r⟩ := elc_ok (fi := fiSeq (eVar 6)) (gt := tName 8) (ft := eC (.bl true)) (fe := eIf (eIsi "str" (eVar 8)) (eVar 8) (eTm tIndex (eVar 2) [(eVar 8)])) (own := [8]) (s := [some S.enc, some (.tup (lb.map D.int)), some (.tup (lk.map D.int)), x3, x4, x5, some (.tup (ps.map pD)), x7, x8]) (h := h) (ck := none) (xs := ps.map pD) (val := fun x => match x with | .int k => .int (plc lk k) | d => d) (tt := fun _ => true)
    (fi_tup rfl) (fun _ => rfl) (fun x hx u => by
      obtain ⟨p, hp, rfl⟩ := hmem x hx
      refine ⟨[some S.enc, some (.tup (lb.map D.int)), some (.tup (lk.map D.int)), x3, x4, x5, some (.tup (ps.map pD)), x7, some (pD p)], [], rfl, rfl, fun _ => ?_⟩
      rw [List.append_nil]
      cases p with
      | key k =>
        have e := e_index (a := 2) (b := 8) (s := [some S.enc, some (.tup (lb.map D.int)), some (.tup (lk.map D.int)), x3, x4, x5, some (.tup (ps.map pD)), x7, some (.int k)]) (h := h ++ u) rfl rfl (hk k (kmem hp))
        simp -implicitDefEqProofs only [pD, x_eif, x_isi, x_var, List.getElem?_cons_zero, List.getElem?_cons_succ, ofO_some, RD.bind_ok, t_int, kit_table, tb_ok, Bool.false_eq_true, if_false, e]
      | free => simp -implicitDefEqProofs only [pD, x_eif, x_isi, x_var, List.getElem?_cons_zero, List.getElem?_cons_succ, ofO_some, RD.bind_ok, t_str, kit_table, tb_ok, if_true]
      | old => simp -implicitDefEqProofs only [pD, x_eif, x_isi, x_var, List.getElem?_cons_zero, List.getElem?_cons_succ, ofO_some, RD.bind_ok, t_str, kit_table, tb_ok, if_true]) (by rw [List.length_map]; exact hl)
  have er : ((ps.map pD).filter fun _ => true).map (fun x => match x with | .int k => D.int (plc lk k) | d => d) = (ps.map (pgR lk)).map pD := by
    rw [List.filter_eq_self.mpr (fun _ _ => rfl), List.map_map, List.map_map]
    refine List.map_congr_left fun p _ => ?_
    cases p <;> rfl
  rw [er] at r
  refine ⟨.lst ((ps.map (pgR lk)).map pD) :: t2, ?_⟩
  rw [x_args, evR_cons, r, RD.bind_ok, evR_nil]
  exact tup_ref (by simp)
abbrev rowBody : FS := (gSeq (gAsg (eBin dIx (eBin dIx (eVar 0) (eC (.int 1))) (eVar 4)) (tTup [(tName 5), (tName 6)]))
    (gDrop (eLm lAppend (eVar 3) [(eTup [(eVar 5), (eArgs bTuple [(eLc (fiSeq (eVar 6)) (tName 8) (eC (.bl true)) (eIf (eIsi "str" (eVar 8)) (eVar 8) (eTm tIndex (eVar 2) [(eVar 8)])) [8])])])])))
theorem blk_mem {S : Sd} {b : Int} (h : 0 ≤ b ∧ b < (S.blocks.length : Int)) : S.blocks[b.toNat]? = some (blkAt S b) ∧ blkAt S b ∈ S.blocks := by
  have hb : b.toNat < S.blocks.length := by omega
  have e : S.blocks[b.toNat]? = some (blkAt S b) := by
    unfold blkAt
    rw [List.getElem?_eq_getElem hb, List.getD_eq_getElem?_getD, List.getElem?_eq_getElem hb]
    rfl
  exact ⟨e, List.mem_of_getElem? e⟩
theorem rows_ren {S : Sd} {pages : Nat} (o : SdOk S pages) {lb lk : List Int} (kin : ∀ k, (0 ≤ k ∧ k < S.keys) → k ∈ lk) {h0 : Hm} {n3 : Nat} (hn3 : h0.length ≤ n3) : ∀ (bs : List Int) (acc : List (Lf × List Pg)) (x4 x5 x6 : Option D) (t : Hm), (∀ b ∈ bs, 0 ≤ b ∧ b < (S.blocks.length : Int)) →
    (h0 ++ t)[n3]? = some (.lst (acc.map bD)) → acc.length + bs.length < 1000 →
    NX (loopG none (tName 4) rowBody (bs.map D.int) [some S.enc, some (.tup (lb.map D.int)), some (.tup (lk.map D.int)), some (.ref n3), x4, x5, x6, none, none] (h0 ++ t)) (fun s h1 => (∃ x4 x5 x6, s = [some S.enc, some (.tup (lb.map D.int)), some (.tup (lk.map D.int)), some (.ref n3), x4, x5, x6, none, none]) ∧ (∃ t, h1 = h0 ++ t) ∧ h1[n3]? = some (.lst ((acc ++ bs.map fun b => bkR lk (blkAt S b)).map bD))) (fun _ _ => False)
  | [], acc, x4, x5, x6, t, _, e, _ => by
    rw [List.map_nil, loop_nil chk_none]
    exact .nx ⟨⟨_, _, _, rfl⟩, ⟨t, rfl⟩, by rw [List.map_nil, List.append_nil]; exact e⟩
  | b :: bs, acc, x4, x5, x6, t, hb, e, hl => by
    have hb0 := hb b List.mem_cons_self
    obtain ⟨eb, mb⟩ := blk_mem hb0
    have ok := o.bk _ mb
    have i1 : ∀ h : Hm, dIx S.enc (.int 1) h = .ok (.tup (S.blocks.map bD)) h := fun h => ix_tup (k := 1) rfl
    have i2 : ∀ h : Hm, dIx (.tup (S.blocks.map bD)) (.int b) h = .ok (bD (blkAt S b)) h := fun h => by
      obtain ⟨k, rfl⟩ := Int.eq_ofNat_of_zero_le hb0.1
      exact ix_tup (by rw [List.getElem?_map]; rw [Int.toNat_natCast] at eb; rw [eb]; rfl)
    have asg : gAsg (eBin dIx (eBin dIx (eVar 0) (eC (.int 1))) (eVar 4)) (tTup [(tName 5), (tName 6)]) [some S.enc, some (.tup (lb.map D.int)), some (.tup (lk.map D.int)), some (.ref n3), some (.int b), x5, x6, none, none] (h0 ++ t) = .nx [some S.enc, some (.tup (lb.map D.int)), some (.tup (lk.map D.int)), some (.ref n3), some (.int b), some (lD (blkAt S b).1), some (.tup ((blkAt S b).2.map pD)), none, none] (h0 ++ t) := by
      have e1 : (eBin dIx (eBin dIx (eVar 0) (eC (.int 1))) (eVar 4)) [some S.enc, some (.tup (lb.map D.int)), some (.tup (lk.map D.int)), some (.ref n3), some (.int b), x5, x6, none, none] (h0 ++ t) = .ok (bD (blkAt S b)) (h0 ++ t) := by
        simp -implicitDefEqProofs only [x_bin, x_c, x_var, List.getElem?_cons_zero, List.getElem?_cons_succ, ofO_some, RD.bind_ok, i1, i2]
      unfold gAsg
      rw [e1]
      rfl
    have kk : ∀ k ∈ keysOf (blkAt S b).2, k ∈ lk := fun k hk => kin k (o.kr k (by
      unfold allKeys
      exact List.mem_flatten.mpr ⟨keysOf (blkAt S b).2, List.mem_map.mpr ⟨_, mb, rfl⟩, hk⟩))
    obtain ⟨u, pr⟩ := pages_ren (S := S) (lb := lb) (x3 := some (.ref n3)) (x4 := some (.int b)) (x5 := some (lD (blkAt S b).1)) (x7 := none) (x8 := none) kk (by have := ok.2.1; have := o.p2; omega) (h0 ++ t)
    have step : NX (rowBody [some S.enc, some (.tup (lb.map D.int)), some (.tup (lk.map D.int)), some (.ref n3), some (.int b), x5, x6, none, none] (h0 ++ t)) (fun s h1 => s = [some S.enc, some (.tup (lb.map D.int)), some (.tup (lk.map D.int)), some (.ref n3), some (.int b), some (lD (blkAt S b).1), some (.tup ((blkAt S b).2.map pD)), none, none] ∧ h1 = (h0 ++ t ++ u).set n3 (.lst ((acc ++ [bkR lk (blkAt S b)]).map bD))) (fun _ _ => False) := by
      unfold rowBody
      rw [x_seq, asg, seq_nx]
      refine nx_drop (ok_append (OK.of (d := .ref n3) (h := h0 ++ t) rfl ⟨n3, _, rfl, e, OK.of (d := bD (bkR lk (blkAt S b))) (h := h0 ++ t ++ u) ?_ ⟨acc.map bD, old e, by rw [List.length_map]; omega, rfl, by rw [List.map_append]; rfl⟩⟩))
      rw [x_tup, evR_cons, x_var]
      simp -implicitDefEqProofs only [List.getElem?_cons_zero, List.getElem?_cons_succ, ofO_some, RD.bind_ok, evR_cons, pr, evR_nil]
      rfl
    rw [List.map_cons, loop_cons chk_none (s1 := [some S.enc, some (.tup (lb.map D.int)), some (.tup (lk.map D.int)), some (.ref n3), some (.int b), x5, x6, none, none]) (h1 := h0 ++ t) rfl]
    generalize rowBody [some S.enc, some (.tup (lb.map D.int)), some (.tup (lk.map D.int)), some (.ref n3), some (.int b), x5, x6, none, none] (h0 ++ t) = r at step
    cases step with
    | rt q => exact False.elim q
    | nx q =>
      obtain ⟨rfl, rfl⟩ := q
      obtain ⟨t', ht'⟩ : ∃ t', (h0 ++ t ++ u).set n3 (.lst ((acc ++ [bkR lk (blkAt S b)]).map bD)) = h0 ++ t' := by
        rw [List.append_assoc, List.set_append_right _ _ hn3]
        exact ⟨_, rfl⟩
      have e' : ((h0 ++ t ++ u).set n3 (.lst ((acc ++ [bkR lk (blkAt S b)]).map bD)))[n3]? = some (.lst ((acc ++ [bkR lk (blkAt S b)]).map bD)) := List.getElem?_set_self (lt_of_get (old e))
      rw [ht'] at e' ⊢
      refine NX.mono (rows_ren o kin hn3 bs (acc ++ [bkR lk (blkAt S b)]) _ _ _ t' (fun x hx => hb x (List.mem_cons_of_mem _ hx)) e' (by simp at hl ⊢; omega)) ?_ (fun _ _ z => z)
      rintro _ _ ⟨q1, q2, q3⟩
      exact ⟨q1, q2, by rw [q3, List.append_assoc]; rfl⟩
end Sh.k09

set_option linter.all false
set_option maxRecDepth 100000
namespace Sh.k09
open PySem L2 PyProof.Rows Sh
theorem dueD_map (lk : List Int) (d : Option Int) : dueD (d.map (plc lk)) = match d with | none => .non | some k => .int (plc lk k) := by cases d <;> rfl
theorem x_lawrenamed {S : Sd} {pages : Nat} (o : SdOk S pages) {lb lk : List Int} (eb : ascI lb = rgI S.blocks.length) (ek : ascI lk = rgI S.keys.toNat) (h : Hm) :
    ∃ t, m__law_renamed [S.enc, .tup (lb.map D.int), .tup (lk.map D.int)] h = .ok (renS S lb lk).enc (h ++ t) := by
  have kin : ∀ k, (0 ≤ k ∧ k < S.keys) → k ∈ lk := fun k h => (ord_mem ek).mpr (by have := o.k1; omega)
  suffices key : OK (m__law_renamed [S.enc, .tup (lb.map D.int), .tup (lk.map D.int)] h) fun d h' => d = (renS S lb lk).enc ∧ ∃ t, h' = h ++ t by
    obtain ⟨d, h', e, rfl, t, rfl⟩ := key.get
    exact ⟨t, e⟩
  refine ok_run ?_
  show NX (g__law_renamed [some S.enc, some (.tup (lb.map D.int)), some (.tup (lk.map D.int)), none, none, none, none, none, none] h) _ _
  unfold g__law_renamed
  refine nx_seq (nx_set ?_)
  simp -implicitDefEqProofs only [ok_ok, ok_bind, ok_tb, bl_bl, x_bin, x_args, evR_cons, evR_nil, x_var, x_c, ofO_some, x_and, x_or, x_not, x_eif, x_chain, x_lst, x_tup, x_isi, List.getElem?_cons_zero, List.getElem?_cons_succ, List.set_cons_zero, List.set_cons_succ, o_cmp, o_sub, o_add, o_int, o_is_n, o_is_b, o_isN_n, o_isN_b, q_int, nq_int]
  have lbl := ord_len eb
  have ib : ∀ b ∈ lb, 0 ≤ b ∧ b < (S.blocks.length : Int) := fun b hb => (ord_mem eb).mp hb
  have rr := rows_ren o (lb := lb) kin (h0 := h) (n3 := h.length) (Nat.le_refl _) lb [] none none none [.lst []] ib get_last (by have := o.b2; simp; omega)
  refine nx_seq (NX.mono (N := fun s h1 => (∃ x4 x5 x6, s = [some S.enc, some (.tup (lb.map D.int)), some (.tup (lk.map D.int)), some (.ref h.length), x4, x5, x6, none, none]) ∧ (∃ t, h1 = h ++ t) ∧ h1[h.length]? = some (.lst ((renS S lb lk).blocks.map bD))) (T := fun _ _ => False) ?_ ?_ (fun _ _ z => False.elim z))
  · rw [for_ok (fi_tup (xs := lb.map D.int) rfl)]
    exact rr
  rintro _ _ ⟨⟨x4, x5, x6, rfl⟩, ⟨t, rfl⟩, e3⟩
  have i0 : ∀ h : Hm, dIx S.enc (.int 0) h = .ok (.int S.keys) h := fun h => ix_tup (k := 0) rfl
  have i2 : ∀ h : Hm, dIx S.enc (.int 2) h = .ok (.int S.fails) h := fun h => ix_tup (k := 2) rfl
  have i3 : ∀ h : Hm, dIx S.enc (.int 3) h = .ok (.int S.cuts) h := fun h => ix_tup (k := 3) rfl
  have i4 : ∀ h : Hm, dIx S.enc (.int 4) h = .ok (dueD S.due) h := fun h => ix_tup (k := 4) rfl
  refine nx_seq (nx_set ?_)
  simp -implicitDefEqProofs only [ok_ok, ok_bind, ok_tb, bl_bl, x_bin, x_args, evR_cons, evR_nil, x_var, x_c, ofO_some, x_and, x_or, x_not, x_eif, x_chain, x_lst, x_tup, x_isi, List.getElem?_cons_zero, List.getElem?_cons_succ, List.set_cons_zero, List.set_cons_succ, o_cmp, o_sub, o_add, o_int, o_is_n, o_is_b, o_isN_n, o_isN_b, q_int, nq_int, i4]
  refine nx_seq (NX.mono (N := fun s h1 => s = [some S.enc, some (.tup (lb.map D.int)), some (.tup (lk.map D.int)), some (.ref h.length), x4, x5, x6, some (dueD (renS S lb lk).due), none] ∧ h1 = h ++ t) (T := fun _ _ => False) ?_ ?_ (fun _ _ z => False.elim z))
  · cases hd : S.due with
    | none =>
      refine nx_ifF (h1 := h ++ t) ?_ (nx_next ⟨?_, rfl⟩)
      · simp -implicitDefEqProofs only [x_bin, x_var, x_c, List.getElem?_cons_zero, List.getElem?_cons_succ, ofO_some, RD.bind_ok, dueD, o_isN_n]
        rfl
      · show _ = [some S.enc, some (.tup (lb.map D.int)), some (.tup (lk.map D.int)), some (.ref h.length), x4, x5, x6, some (dueD (S.due.map (plc lk))), none]
        rw [hd]
        rfl
    | some k =>
      refine nx_ifT (h1 := h ++ t) ?_ (nx_set (OK.of (e_index (a := 2) (b := 7) rfl rfl (kin k (o.d k hd))) ⟨?_, rfl⟩))
      · simp -implicitDefEqProofs only [x_bin, x_var, x_c, List.getElem?_cons_zero, List.getElem?_cons_succ, ofO_some, RD.bind_ok, dueD, o_isN_n]
        rfl
      · show _ = [some S.enc, some (.tup (lb.map D.int)), some (.tup (lk.map D.int)), some (.ref h.length), x4, x5, x6, some (dueD (S.due.map (plc lk))), none]
        rw [hd]
        rfl
  · rintro _ _ ⟨rfl, rfl⟩
    refine nx_ret ?_
    simp -implicitDefEqProofs only [ok_ok, ok_bind, ok_tb, bl_bl, x_bin, x_args, evR_cons, evR_nil, x_var, x_c, ofO_some, x_and, x_or, x_not, x_eif, x_chain, x_lst, x_tup, x_isi, List.getElem?_cons_zero, List.getElem?_cons_succ, List.set_cons_zero, List.set_cons_succ, o_cmp, o_sub, o_add, o_int, o_is_n, o_is_b, o_isN_n, o_isN_b, q_int, nq_int, i0, i2, i3, tup_ref e3]
    exact ⟨rfl, t, rfl⟩
end Sh.k09

set_option linter.all false
set_option maxRecDepth 100000
namespace Sh.k09
open PySem L2 PyProof.Rows Sh
/-- the places, as a dict -/
def numD (j : Nat) : List Int → List (Key × D)
  | [] => []
  | k :: lk => (.inl k, .int (j : Int)) :: numD (j + 1) lk
theorem num_any {k : Int} : ∀ {lk : List Int} {j : Nat}, k ∉ lk → ((numD j lk).any fun kv => decide (kv.1 = (.inl k : Key))) = false
  | [], _, _ => rfl
  | a :: lk, j, h => by
    have h1 : a ≠ k := fun z => h (z ▸ List.mem_cons_self)
    have h2 : k ∉ lk := fun z => h (List.mem_cons_of_mem _ z)
    simp only [numD, List.any_cons, num_any h2, Bool.or_false]
    simp [h1]
theorem num_snoc {k : Int} : ∀ (lk : List Int) (j : Nat), numD j (lk ++ [k]) = numD j lk ++ [(.inl k, .int ((j + lk.length : Nat) : Int))]
  | [], j => rfl
  | a :: lk, j => by
    simp only [List.cons_append, numD, num_snoc lk (j + 1), List.length_cons]
    have : j + 1 + lk.length = j + (lk.length + 1) := by omega
    rw [this]
theorem num_put {k : Int} {lk : List Int} (h : k ∉ lk) : putKD (numD 0 lk) (.inl k) (.int ((lk.length : Nat) : Int)) = numD 0 (lk ++ [k]) := by
  unfold putKD
  rw [num_any h, if_neg (by decide), num_snoc, Nat.zero_add]
theorem num_val {k : Int} : ∀ {lk : List Int} {j : Nat}, k ∈ lk → valD (numD j lk) (.inl k) = some (.int ((j + lk.idxOf k : Nat) : Int))
  | a :: lk, j, h => by
    by_cases e : a = k
    · subst e
      simp [numD, valD]
    · have h2 : k ∈ lk := by
        rcases List.mem_cons.mp h with z | z
        · exact absurd z.symm e
        · exact z
      have q : (a == k) = false := by simpa using e
      have ih := num_val (j := j + 1) h2
      unfold valD at ih ⊢
      simp only [numD, List.find?_cons]
      have : decide ((.inl a : Key) = .inl k) = false := by simp [e]
      rw [this]
      simp only
      rw [ih, List.idxOf_cons, q]
      simp only [cond_false]
      congr 3
      omega
theorem num_str {w : Str} : ∀ {lk : List Int} {j : Nat}, valD (numD j lk) (.inr w) = none
  | [], _ => rfl
  | a :: lk, j => by
    have ih := num_str (w := w) (lk := lk) (j := j + 1)
    unfold valD at ih ⊢
    simp only [numD, List.find?_cons]
    have : decide ((.inl a : Key) = .inr w) = false := by simp
    rw [this]
    exact ih
theorem put_last {h : Hm} {o o' : O} : (h ++ [o]).set h.length o' = h ++ [o'] := by
  rw [List.set_append_right _ _ (Nat.le_refl _), Nat.sub_self]
  rfl
theorem num_loop {h : Hm} {v0 v1 v2 v3 : Option D} : ∀ (rest done : List Int), (done ++ rest).Nodup → (done ++ rest).length < 1000000 →
    dcLoop none (tTup [(tName 6), (tName 7)]) (eC (.bl true)) (eVar 7) (eVar 6) h.length [v0, v1, v2, v3, none, none, none, none, none, none] (enD done.length (rest.map D.int)) (h ++ [.dk (numD 0 done)]) = .ok (.ref h.length) (h ++ [.dk (numD 0 (done ++ rest))])
  | [], done, _, _ => by
    rw [List.append_nil]
    unfold dcLoop
    rw [List.map_nil]
    unfold enD
    dsimp only
    rw [if_pos chk_none]
  | k :: rest, done, hn, hl => by
    have hk : k ∉ done := fun z => by
      have := (List.nodup_append.mp hn).2.2 k z k List.mem_cons_self
      exact this rfl
    have ih := num_loop (h := h) (v0 := v0) (v1 := v1) (v2 := v2) (v3 := v3) rest (done ++ [k]) (by rw [List.append_assoc]; exact hn) (by rw [List.append_assoc]; exact hl)
    rw [List.map_cons]
    unfold enD dcLoop
    rw [if_pos chk_none]
    have g1 : tTup [(tName 6), (tName 7)] (.tup [.int (done.length : Nat), .int k]) [v0, v1, v2, v3, none, none, none, none, none, none] (h ++ [.dk (numD 0 done)]) = .nx [v0, v1, v2, v3, none, none, some (.int (done.length : Nat)), some (.int k), none, none] (h ++ [.dk (numD 0 done)]) := rfl
    rw [g1]
    dsimp only
    have g2 : (eC (.bl true)) [v0, v1, v2, v3, none, none, some (.int (done.length : Nat)), some (.int k), none, none] (h ++ [.dk (numD 0 done)]) = .ok (.bl true) (h ++ [.dk (numD 0 done)]) := rfl
    have g3 : (eVar 7) [v0, v1, v2, v3, none, none, some (.int (done.length : Nat)), some (.int k), none, none] (h ++ [.dk (numD 0 done)]) = .ok (.int k) (h ++ [.dk (numD 0 done)]) := rfl
    have g4 : (eVar 6) [v0, v1, v2, v3, none, none, some (.int (done.length : Nat)), some (.int k), none, none] (h ++ [.dk (numD 0 done)]) = .ok (.int (done.length : Nat)) (h ++ [.dk (numD 0 done)]) := rfl
    rw [g2]
    dsimp only
    rw [g3]
    dsimp only
    rw [g4]
    dsimp only
    rw [get_last]
    dsimp only [keyD]
    have nl : ∀ (j : Nat) (l : List Int), (numD j l).length = l.length := by
      intro j l
      induction l generalizing j with
      | nil => rfl
      | cons a l ih => simp [numD, ih]
    rw [if_pos (by rw [nl]; show done.length < 1000000; simp at hl; omega), put_last, num_put hk]
    rw [List.length_append, List.length_singleton] at ih
    rw [ih, List.append_assoc]
    rfl
end Sh.k09

set_option linter.all false
set_option maxRecDepth 100000
namespace Sh.k09
open PySem L2 PyProof.Rows Sh
def gotP (lk : List Int) : Pg → Option D
  | .key k => some (.int (plc lk k))
  | _ => none
theorem get2_pg {lk : List Int} {p : Pg} (hk : ∀ k, p = .key k → k ∈ lk) {nd a b : Nat} {s : DS} {h : Hm} (ha : s[a]? = some (some (.ref nd))) (hb : s[b]? = some (some (pD p))) (hd : h[nd]? = some (.dk (numD 0 lk))) : eDget2 (eVar a) (eVar b) (eVar b) s h = .ok (pD (pgR lk p)) h := by
  have i1 : isDk (.ref nd) h = true := by unfold isDk; dsimp only; rw [hd]
  have i2 : dHas (.ref nd) (pD p) h = some (gotP lk p) := by
    unfold dHas
    cases p with
    | key k =>
      have := num_val (j := 0) (hk k rfl)
      dsimp only [pD, keyD]
      rw [hd]
      dsimp only
      rw [this, Nat.zero_add]
      rfl
    | free => dsimp only [pD, keyD]; rw [hd]; dsimp only; rw [num_str]; rfl
    | old => dsimp only [pD, keyD]; rw [hd]; dsimp only; rw [num_str]; rfl
  unfold eDget2
  have eb : eVar b s h = .ok (pD p) h := by rw [x_var, hb, ofO_some]
  rw [x_var, ha, ofO_some, RD.bind_ok, if_pos i1, eb, RD.bind_ok, eb, RD.bind_ok, i2]
  cases p <;> rfl
theorem key_mem : ∀ {ps : List Pg} {k : Int}, Pg.key k ∈ ps → k ∈ keysOf ps := by
  intro ps
  induction ps with
  | nil => intro k h; cases h
  | cons p ps ih =>
    intro k h
    rcases List.mem_cons.mp h with z | z
    · subst z; exact List.mem_cons_self
    · cases p <;> first | exact ih z | exact List.mem_cons_of_mem _ (ih z)
theorem page_move {lk : List Int} {nd nr : Nat} {v0 v1 v2 v5 v6 v7 v8 v9 : Option D} {f : FE} {ps : List Pg} {h : Hm} (hk : ∀ k ∈ keysOf ps, k ∈ lk) (hl : ps.length < 1000000) (hd : h[nd]? = some (.dk (numD 0 lk)))
    (hf : f [v0, v1, v2, some (.ref nr), some (.ref nd), v5, v6, v7, v8, v9] h = .ok (.tup (ps.map pD)) h) :
    ∃ t, (eArgs bTuple [(eLc (fiSeq f) (tName 9) (eC (.bl true)) (eDget2 (eVar 4) (eVar 9) (eVar 9)) [9])]) [v0, v1, v2, some (.ref nr), some (.ref nd), v5, v6, v7, v8, v9] h = .ok (.tup ((ps.map (pgR lk)).map pD)) (h ++ t) := by
  obtain ⟨t2, r⟩ := elc_ok (fi := fiSeq f) (gt := tName 9) (ft := eC (.bl true)) (fe := eDget2 (eVar 4) (eVar 9) (eVar 9)) (own := [9]) (s := [v0, v1, v2, some (.ref nr), some (.ref nd), v5, v6, v7, v8, v9]) (h := h) (ck := none) (xs := ps.map pD) (val := fun x => match x with | .int k => .int (plc lk k) | d => d) (tt := fun _ => true)
    (fi_tup hf) (fun _ => rfl) (fun x hx u => by
      obtain ⟨p, hp, rfl⟩ := List.mem_map.mp hx
      refine ⟨[v0, v1, v2, some (.ref nr), some (.ref nd), v5, v6, v7, v8, some (pD p)], [], rfl, rfl, fun _ => ?_⟩
      rw [get2_pg (a := 4) (b := 9) (p := p) (lk := lk) (nd := nd) (fun k e => hk k (key_mem (e ▸ hp))) rfl rfl (old hd), List.append_nil]
      cases p <;> rfl) (by rw [List.length_map]; exact hl)
  have er : ((ps.map pD).filter fun _ => true).map (fun x => match x with | .int k => D.int (plc lk k) | d => d) = (ps.map (pgR lk)).map pD := by
    rw [List.filter_eq_self.mpr (fun _ _ => rfl), List.map_map, List.map_map]
    refine List.map_congr_left fun p _ => ?_
    cases p <;> rfl
  rw [er] at r
  refine ⟨.lst ((ps.map (pgR lk)).map pD) :: t2, ?_⟩
  rw [x_args, evR_cons, r, RD.bind_ok, evR_nil]
  exact tup_ref (by simp)
abbrev movedE : FE := (eLc (fiSeq (eVar 1)) (tName 8) (eC (.bl true)) (eTup [(eBin dIx (eBin dIx (eVar 3) (eVar 8)) (eC (.int 0))), (eArgs bTuple [(eLc (fiSeq (eBin dIx (eBin dIx (eVar 3) (eVar 8)) (eC (.int 1)))) (tName 9) (eC (.bl true)) (eDget2 (eVar 4) (eVar 9) (eVar 9)) [9])])]) [8])
theorem moved_ok {S : Sd} {pages : Nat} (o : SdOk S pages) {lb lk : List Int} (eb : ascI lb = rgI S.blocks.length) (ek : ascI lk = rgI S.keys.toNat) {p nr nd : Nat} {v2 : Option D} {h : Hm} (hr : h[nr]? = some (.lst (S.blocks.map bD))) (hd : h[nd]? = some (.dk (numD 0 lk))) :
    ∃ t, movedE [some (.ref p), some (.tup (lb.map D.int)), v2, some (.ref nr), some (.ref nd), none, none, none, none, none] h = .ok (.ref h.length) (h ++ .lst ((renS S lb lk).blocks.map bD) :: t) := by
  have kin : ∀ k, (0 ≤ k ∧ k < S.keys) → k ∈ lk := fun k h => (ord_mem ek).mpr (by have := o.k1; omega)
  obtain ⟨t2, r⟩ := elc_ok (fi := fiSeq (eVar 1)) (gt := tName 8) (ft := eC (.bl true)) (fe := (eTup [(eBin dIx (eBin dIx (eVar 3) (eVar 8)) (eC (.int 0))), (eArgs bTuple [(eLc (fiSeq (eBin dIx (eBin dIx (eVar 3) (eVar 8)) (eC (.int 1)))) (tName 9) (eC (.bl true)) (eDget2 (eVar 4) (eVar 9) (eVar 9)) [9])])])) (own := [8]) (s := [some (.ref p), some (.tup (lb.map D.int)), v2, some (.ref nr), some (.ref nd), none, none, none, none, none]) (h := h) (ck := none) (xs := lb.map D.int) (val := fun x => match x with | .int b => bD (bkR lk (blkAt S b)) | d => d) (tt := fun _ => true)
    (fi_tup rfl) (fun _ => rfl) (fun x hx u => by
      obtain ⟨b, hb, rfl⟩ := List.mem_map.mp hx
      have hb0 := (ord_mem eb).mp hb
      obtain ⟨e1, mb⟩ := blk_mem hb0
      have ok := o.bk _ mb
      have hr2 : (h ++ u)[nr]? = some (.lst (S.blocks.map bD)) := old hr
      have i1 : dIx (.ref nr) (.int b) (h ++ u) = .ok (bD (blkAt S b)) (h ++ u) := by
        obtain ⟨k, rfl⟩ := Int.eq_ofNat_of_zero_le hb0.1
        exact ix_ref hr2 (by rw [List.getElem?_map]; rw [Int.toNat_natCast] at e1; rw [e1]; rfl)
      have j0 : dIx (bD (blkAt S b)) (.int 0) (h ++ u) = .ok (lD (blkAt S b).1) (h ++ u) := ix_tup (k := 0) rfl
      have j1 : dIx (bD (blkAt S b)) (.int 1) (h ++ u) = .ok (.tup ((blkAt S b).2.map pD)) (h ++ u) := ix_tup (k := 1) rfl
      have kk : ∀ k ∈ keysOf (blkAt S b).2, k ∈ lk := fun k hk => kin k (o.kr k (by
        unfold allKeys
        exact List.mem_flatten.mpr ⟨keysOf (blkAt S b).2, List.mem_map.mpr ⟨_, mb, rfl⟩, hk⟩))
      obtain ⟨t, pm⟩ := page_move (lk := lk) (nd := nd) (nr := nr) (v0 := some (.ref p)) (v1 := some (.tup (lb.map D.int))) (v2 := v2) (v5 := none) (v6 := none) (v7 := none) (v8 := some (.int b)) (v9 := none) (f := (eBin dIx (eBin dIx (eVar 3) (eVar 8)) (eC (.int 1)))) (ps := (blkAt S b).2) (h := h ++ u) kk (by have := ok.2.1; have := o.p2; omega) (old hd) (by
        simp -implicitDefEqProofs only [x_bin, x_c, x_var, List.getElem?_cons_zero, List.getElem?_cons_succ, ofO_some, RD.bind_ok, i1, j1])
      refine ⟨[some (.ref p), some (.tup (lb.map D.int)), v2, some (.ref nr), some (.ref nd), none, none, none, some (.int b), none], t, rfl, rfl, fun _ => ?_⟩
      rw [x_tup, evR_cons]
      have q0 : (eBin dIx (eBin dIx (eVar 3) (eVar 8)) (eC (.int 0))) [some (.ref p), some (.tup (lb.map D.int)), v2, some (.ref nr), some (.ref nd), none, none, none, some (.int b), none] (h ++ u) = .ok (lD (blkAt S b).1) (h ++ u) := by
        simp -implicitDefEqProofs only [x_bin, x_c, x_var, List.getElem?_cons_zero, List.getElem?_cons_succ, ofO_some, RD.bind_ok, i1, j0]
      rw [q0, RD.bind_ok, evR_cons, pm, RD.bind_ok, evR_nil]
      rfl) (by rw [List.length_map, ord_len eb]; have := o.b2; omega)
  refine ⟨t2, r.trans ?_⟩
  have er : ((lb.map D.int).filter fun _ => true).map (fun x => match x with | .int b => bD (bkR lk (blkAt S b)) | d => d) = (renS S lb lk).blocks.map bD := by
    rw [List.filter_eq_self.mpr (fun _ _ => rfl), List.map_map]
    show _ = (lb.map fun b => bkR lk (blkAt S b)).map bD
    rw [List.map_map]
    rfl
  rw [er]
end Sh.k09

set_option linter.all false
set_option maxRecDepth 100000
namespace Sh.k09
open PySem L2 PyProof.Rows Sh
section
variable {S : Sd} {pages : Nat} {h : Hm} {p : Nat} {lb lk : List Int} {v w : D}
theorem st_blocks (hp : h[p]? = some (stO S)) : m_Stand_blocks [.ref p] h = .ok (.ref h.length) (h ++ [.lst (S.blocks.map bD)]) := by
  rw [m_Stand_blocks, x_run]
  show ((gRet _) [some (.ref p)] h).out = _
  have j : dIx S.enc (.int 1) h = .ok (.tup (S.blocks.map bD)) h := ix_tup (k := 1) rfl
  have f : eFld "Stand" "_shape" (eVar 0) [some (D.ref p)] h = .ok S.enc h := fld_ok rfl hp
  have bl : bList [.tup (S.blocks.map bD)] h = .ok (.ref h.length) (h ++ [.lst (S.blocks.map bD)]) := rfl
  simp -implicitDefEqProofs only [x_ret, x_bin, x_args, evR_cons, evR_nil, f, RD.bind_ok, x_c, j, bl, RD.st_ok, out_rt]
theorem st_many (hp : h[p]? = some (stO S)) : m_Stand_many [.ref p] h = .ok (.int S.keys) h := by
  rw [m_Stand_many, x_run]
  show ((gRet _) [some (.ref p)] h).out = _
  have j : dIx S.enc (.int 0) h = .ok (.int S.keys) h := ix_tup (k := 0) rfl
  have f : eFld "Stand" "_shape" (eVar 0) [some (D.ref p)] h = .ok S.enc h := fld_ok rfl hp
  simp -implicitDefEqProofs only [x_ret, x_bin, f, RD.bind_ok, x_c, j, RD.st_ok, out_rt]
theorem st_asked (hp : h[p]? = some (stO S)) : m_Stand_asked [.ref p] h = .ok (dueD S.due) h := by
  rw [m_Stand_asked, x_run]
  show ((gRet _) [some (.ref p)] h).out = _
  have j : dIx S.enc (.int 4) h = .ok (dueD S.due) h := ix_tup (k := 4) rfl
  have f : eFld "Stand" "_shape" (eVar 0) [some (D.ref p)] h = .ok S.enc h := fld_ok rfl hp
  simp -implicitDefEqProofs only [x_ret, x_bin, f, RD.bind_ok, x_c, j, RD.st_ok, out_rt]
theorem getN_due (kin : ∀ k, S.due = some k → k ∈ lk) {nd a : Nat} {f : FE} {s : DS} (ha : s[a]? = some (some (.ref nd))) (hf : f s h = .ok (dueD S.due) h) (hd : h[nd]? = some (.dk (numD 0 lk))) : eDget1N (eVar a) f s h = .ok (dueD (renS S lb lk).due) h := by
  have i1 : isDk (.ref nd) h = true := by unfold isDk; dsimp only; rw [hd]
  have ea : eVar a s h = .ok (.ref nd) h := by rw [x_var, ha, ofO_some]
  unfold eDget1N
  rw [ea, RD.bind_ok, if_pos i1, hf, RD.bind_ok]
  show _ = RD.ok (dueD (S.due.map (plc lk))) h
  cases q : S.due with
  | none =>
    have : dHasN (.ref nd) (dueD none) h = some none := by
      show (if isDk (.ref nd) h = true then some none else none) = _
      rw [if_pos i1]
    rw [this]
    rfl
  | some k =>
    have : dHasN (.ref nd) (dueD (some k)) h = some (some (.int (plc lk k))) := by
      have e := num_val (j := 0) (kin k q)
      show dHas (.ref nd) (.int k) h = _
      unfold dHas
      dsimp only [keyD]
      rw [hd]
      dsimp only
      rw [e, Nat.zero_add]
      rfl
    rw [this]
    rfl
end
end Sh.k09

set_option linter.all false
set_option maxRecDepth 100000
namespace Sh.k09
open PySem L2 PyProof.Rows Sh
abbrev rnT5 : FS := (gSeq (gSet 4 (eDc (fiEn (eVar 2)) (tTup [(tName 6), (tName 7)]) (eC (.bl true)) (eVar 7) (eVar 6) [6, 7]))
    (gSeq (gSet 5 movedE)
    (gRet (eMake "Stand" m_Stand_init [(eMeth "Stand" "many" m_Stand_many (eVar 0) []), (eVar 5), (eMeth "Stand" "fails" m_Stand_fails (eVar 0) []), (eMeth "Stand" "cuts" m_Stand_cuts (eVar 0) [])] [(eDget1N (eVar 4) (eMeth "Stand" "asked" m_Stand_asked (eVar 0) []))]))))
section
variable {S : Sd} {pages : Nat} {h : Hm} {p : Nat} {lb lk : List Int} {v w : D}
theorem rg_nodup (n : Nat) : (rgI n).Nodup := by
  unfold rgI
  exact List.pairwise_map.mpr (List.pairwise_lt_range.imp fun h => by omega)
theorem rn_tail (o : SdOk S pages) (eb : ascI lb = rgI S.blocks.length) (ek : ascI lk = rgI S.keys.toNat) {nr : Nat} {N : DS → Hm → Prop} (hp : h[p]? = some (stO S)) (hr : h[nr]? = some (.lst (S.blocks.map bD))) :
    NX (rnT5 [some (.ref p), some (.tup (lb.map D.int)), some (.tup (lk.map D.int)), some (.ref nr), none, none, none, none, none, none] h) N (fun d h' => ∃ q t, d = .ref q ∧ h' = h ++ t ∧ h'[q]? = some (stO (renS S lb lk))) := by
  have oR := ren_ok (lb := lb) (lk := lk) o eb ek
  have kin : ∀ k, (0 ≤ k ∧ k < S.keys) → k ∈ lk := fun k h => (ord_mem ek).mpr (by have := o.k1; omega)
  have hnd : lk.Nodup := (ord_perm ek).nodup_iff.mpr (rg_nodup _)
  have hkl : lk.length = S.keys.toNat := ord_len ek
  unfold rnT5
  refine nx_seq (nx_set (OK.of (d := .ref h.length) (h := h ++ [.dk (numD 0 lk)]) ?_ ?_))
  · have fe : (fiEn (eVar 2)) [some (.ref p), some (.tup (lb.map D.int)), some (.tup (lk.map D.int)), some (.ref nr), none, none, none, none, none, none] h = .ok (enD 0 (lk.map D.int)) none h := rfl
    unfold eDc
    rw [fe]
    dsimp only
    have nl := num_loop (h := h) (v0 := some (.ref p)) (v1 := some (.tup (lb.map D.int))) (v2 := some (.tup (lk.map D.int))) (v3 := some (.ref nr)) lk [] (by rw [List.nil_append]; exact hnd) (by rw [List.nil_append, hkl]; have := o.k2; omega)
    rw [List.nil_append] at nl
    exact nl
  simp -implicitDefEqProofs only [List.set_cons_zero, List.set_cons_succ]
  obtain ⟨t, mv⟩ := moved_ok o eb ek (p := p) (nr := nr) (nd := h.length) (v2 := some (.tup (lk.map D.int))) (h := h ++ [.dk (numD 0 lk)]) (old hr) get_last
  refine nx_seq (nx_set (OK.of mv ?_))
  simp -implicitDefEqProofs only [List.set_cons_zero, List.set_cons_succ]
  obtain ⟨nb, hnb⟩ : ∃ nb, nb = (h ++ [O.dk (numD 0 lk)]).length := ⟨_, rfl⟩
  rw [← hnb]
  obtain ⟨g, hg⟩ : ∃ g, g = h ++ [O.dk (numD 0 lk)] ++ .lst ((renS S lb lk).blocks.map bD) :: t := ⟨_, rfl⟩
  rw [← hg]
  have hpg : g[p]? = some (stO S) := by rw [hg]; exact old (old hp)
  have hng : g[h.length]? = some (.dk (numD 0 lk)) := by rw [hg]; exact old get_last
  have hbg : g[nb]? = some (.lst ((renS S lb lk).blocks.map bD)) := by rw [hg, hnb]; simp
  have hgh : ∃ u, g = h ++ u := ⟨_, by rw [hg, List.append_assoc]⟩
  have em1 : eMeth "Stand" "many" m_Stand_many (eVar 0) [] [some (.ref p), some (.tup (lb.map D.int)), some (.tup (lk.map D.int)), some (.ref nr), some (.ref h.length), some (.ref nb), none, none, none, none] g = .ok (.int S.keys) g := by
    rw [meth_okv (S := S) (p := p) (h1 := g) rfl hpg (by decide), evR_nil, x_many hpg]
  have em2 : eMeth "Stand" "fails" m_Stand_fails (eVar 0) [] [some (.ref p), some (.tup (lb.map D.int)), some (.tup (lk.map D.int)), some (.ref nr), some (.ref h.length), some (.ref nb), none, none, none, none] g = .ok (.int S.fails) g := by
    rw [meth_okv (S := S) (p := p) (h1 := g) rfl hpg (by decide), evR_nil, x_fails hpg]
  have em3 : eMeth "Stand" "cuts" m_Stand_cuts (eVar 0) [] [some (.ref p), some (.tup (lb.map D.int)), some (.tup (lk.map D.int)), some (.ref nr), some (.ref h.length), some (.ref nb), none, none, none, none] g = .ok (.int S.cuts) g := by
    rw [meth_okv (S := S) (p := p) (h1 := g) rfl hpg (by decide), evR_nil, x_cuts hpg]
  have em4 : eMeth "Stand" "asked" m_Stand_asked (eVar 0) [] [some (.ref p), some (.tup (lb.map D.int)), some (.tup (lk.map D.int)), some (.ref nr), some (.ref h.length), some (.ref nb), none, none, none, none] g = .ok (dueD S.due) g := by
    rw [meth_okv (S := S) (p := p) (h1 := g) rfl hpg (by decide), evR_nil, x_asked hpg]
  have em5 := getN_due (lb := lb) (lk := lk) (a := 4) (nd := h.length) (s := [some (.ref p), some (.tup (lb.map D.int)), some (.tup (lk.map D.int)), some (.ref nr), some (.ref h.length), some (.ref nb), none, none, none, none]) (fun k e => kin k (o.d k e)) rfl em4 hng
  have ev5 : (eVar 5) [some (.ref p), some (.tup (lb.map D.int)), some (.tup (lk.map D.int)), some (.ref nr), some (.ref h.length), some (.ref nb), none, none, none, none] g = .ok (.ref nb) g := rfl
  obtain ⟨t3, xi⟩ := x_init oR (nb := nb) (p := g.length) (h := g ++ [O.ins "Stand" []]) (old hbg) get_last
  have xi' : m_Stand_init [.ref g.length, .int S.keys, .ref nb, .int S.fails, .int S.cuts, dueD (renS S lb lk).due] (g ++ [O.ins "Stand" []]) = .ok .non ((g ++ [O.ins "Stand" []]).set g.length (stO (renS S lb lk)) ++ t3) := xi
  rw [put_last] at xi'
  refine nx_ret (OK.of (d := .ref g.length) (h := g ++ [stO (renS S lb lk)] ++ t3) ?_ ?_)
  · unfold eMake
    simp -implicitDefEqProofs only [evalL, em1, ev5, em2, em3, em5]
    unfold dMake
    show (match m_Stand_init [.ref g.length, .int S.keys, .ref nb, .int S.fails, .int S.cuts, dueD (renS S lb lk).due] (g ++ [O.ins "Stand" []]) with | .ok .non h2 => RD.ok (.ref g.length) h2 | .ok _ _ => .bad | r => r) = _
    rw [xi']
  · obtain ⟨u, hu⟩ := hgh
    exact ⟨g.length, u ++ [stO (renS S lb lk)] ++ t3, rfl, by rw [hu]; simp, old get_last⟩
end
end Sh.k09

set_option linter.all false
set_option maxRecDepth 100000
namespace Sh.k09
open PySem L2 PyProof.Rows Sh
section
variable {S : Sd} {pages : Nat} {h : Hm} {p : Nat} {lb lk : List Int} {v w : D}
abbrev rnC1 : FE := (eNot (eArgs m_is_order [(eVar 1), (eArgs bLen [(eVar 3)])]))
abbrev rnC2 : FE := (eNot (eArgs m_is_order [(eVar 2), (eMeth "Stand" "many" m_Stand_many (eVar 0) [])]))
theorem cond1 (o : SdOk S pages) {nr : Nat} (hv : Vd 3 h v) (hr : h[nr]? = some (.lst (S.blocks.map bD))) {v0 v2 v4 v5 v6 v7 v8 v9 : Option D} : ∃ b t, rnC1 [v0, some v, v2, some (.ref nr), v4, v5, v6, v7, v8, v9] h = .ok (.bl (!b)) (h ++ t) ∧ (b = true ↔ OrdV v S.blocks.length) := by
  obtain ⟨b, t, e, q⟩ := x_isorder (n := S.blocks.length) (by have := o.b2; omega) hv
  refine ⟨b, t, ?_, q⟩
  have el := len_ref hr
  rw [List.length_map] at el
  simp -implicitDefEqProofs only [x_not, x_args, evR_cons, evR_nil, x_var, List.getElem?_cons_zero, List.getElem?_cons_succ, ofO_some, RD.bind_ok, el, e, tb_ok]
theorem cond2 (o : SdOk S pages) (hw : Vd 3 h w) (hp : h[p]? = some (stO S)) {v1 v3 v4 v5 v6 v7 v8 v9 : Option D} : ∃ b t, rnC2 [some (.ref p), v1, some w, v3, v4, v5, v6, v7, v8, v9] h = .ok (.bl (!b)) (h ++ t) ∧ (b = true ↔ OrdV w S.keys.toNat) := by
  obtain ⟨b, t, e, q⟩ := x_isorder (n := S.keys.toNat) (by have := o.k2; omega) hw
  have hk : ((S.keys.toNat : Nat) : Int) = S.keys := Int.toNat_of_nonneg (by have := o.k1; omega)
  rw [hk] at e
  refine ⟨b, t, ?_, q⟩
  have em : eMeth "Stand" "many" m_Stand_many (eVar 0) [] [some (.ref p), v1, some w, v3, v4, v5, v6, v7, v8, v9] h = .ok (.int S.keys) h := by
    rw [meth_okv (S := S) (p := p) (h1 := h) rfl hp (by decide), evR_nil, x_many hp]
  simp -implicitDefEqProofs only [x_not, x_args, evR_cons, evR_nil, x_var, List.getElem?_cons_zero, List.getElem?_cons_succ, ofO_some, RD.bind_ok, em, e, tb_ok]
theorem set_blocks (hp : h[p]? = some (stO S)) : (gSet 3 (eMeth "Stand" "blocks" m_Stand_blocks (eVar 0) [])) [some (.ref p), some v, some w, none, none, none, none, none, none, none] h = .nx [some (.ref p), some v, some w, some (.ref h.length), none, none, none, none, none, none] (h ++ [.lst (S.blocks.map bD)]) := by
  have em : eMeth "Stand" "blocks" m_Stand_blocks (eVar 0) [] [some (.ref p), some v, some w, none, none, none, none, none, none, none] h = .ok (.ref h.length) (h ++ [.lst (S.blocks.map bD)]) := by
    rw [meth_okv (S := S) (p := p) (h1 := h) rfl hp (by decide), evR_nil, st_blocks hp]
  rw [x_set, em]
  rfl
theorem ren_bad1 (o : SdOk S pages) (hp : h[p]? = some (stO S)) (hv : Vd 3 h v) (hn : ¬ OrdV v S.blocks.length) : ∃ t, m_renamed [.ref p, v, w] h = .exc "NoNames" [("part", .str "blocks")] (h ++ t) := by
  obtain ⟨b, t, e, q⟩ := cond1 (h := h ++ [.lst (S.blocks.map bD)]) (v0 := some (.ref p)) (v2 := some w) (v4 := none) (v5 := none) (v6 := none) (v7 := none) (v8 := none) (v9 := none) o (vd_old hv) get_last
  have hb : b = false := by
    cases b with
    | true => exact absurd (q.mp rfl) hn
    | false => rfl
  subst hb
  unfold rnC1 at e
  refine ⟨[.lst (S.blocks.map bD)] ++ t, ?_⟩
  rw [m_renamed, x_run]
  show ((gSeq _ _) [some (.ref p), some v, some w, none, none, none, none, none, none, none] h).out = _
  rw [x_seq, set_blocks hp, seq_nx, x_seq, x_if, e]
  simp -implicitDefEqProofs only [Bool.not_false, tst_ok]
  rw [if_pos trivial, List.append_assoc]
  rfl
theorem ren_bad2 (o : SdOk S pages) (hp : h[p]? = some (stO S)) (hv : Vd 3 h v) (hw : Vd 3 h w) (hy : OrdV v S.blocks.length) (hn : ¬ OrdV w S.keys.toNat) : ∃ t, m_renamed [.ref p, v, w] h = .exc "NoNames" [("part", .str "keys")] (h ++ t) := by
  obtain ⟨b, t, e, q⟩ := cond1 (h := h ++ [.lst (S.blocks.map bD)]) (v0 := some (.ref p)) (v2 := some w) (v4 := none) (v5 := none) (v6 := none) (v7 := none) (v8 := none) (v9 := none) o (vd_old hv) get_last
  have hb : b = true := q.mpr hy
  subst hb
  obtain ⟨b, t2, e2, q2⟩ := cond2 (h := h ++ [.lst (S.blocks.map bD)] ++ t) (p := p) (v1 := some v) (v3 := some (.ref h.length)) (v4 := none) (v5 := none) (v6 := none) (v7 := none) (v8 := none) (v9 := none) o (vd_old (vd_old hw)) (old (old hp))
  have hb : b = false := by
    cases b with
    | true => exact absurd (q2.mp rfl) hn
    | false => rfl
  subst hb
  unfold rnC1 at e
  unfold rnC2 at e2
  refine ⟨[.lst (S.blocks.map bD)] ++ t ++ t2, ?_⟩
  rw [m_renamed, x_run]
  show ((gSeq _ _) [some (.ref p), some v, some w, none, none, none, none, none, none, none] h).out = _
  rw [x_seq, set_blocks hp, seq_nx, x_seq, x_if, e]
  simp -implicitDefEqProofs only [Bool.not_true, tst_ok, Bool.false_eq_true]
  rw [if_false, x_next, seq_nx, x_seq, x_if, e2]
  simp -implicitDefEqProofs only [Bool.not_false, tst_ok]
  rw [if_pos trivial, ← List.append_assoc, ← List.append_assoc]
  rfl
theorem ren_good (o : SdOk S pages) (hp : h[p]? = some (stO S)) (hv : Vd 3 h (.tup (lb.map D.int))) (hw : Vd 3 h (.tup (lk.map D.int))) (eb : ascI lb = rgI S.blocks.length) (ek : ascI lk = rgI S.keys.toNat) :
    ∃ q t, m_renamed [.ref p, .tup (lb.map D.int), .tup (lk.map D.int)] h = .ok (.ref q) (h ++ t) ∧ (h ++ t)[q]? = some (stO (renS S lb lk)) := by
  suffices key : OK (m_renamed [.ref p, .tup (lb.map D.int), .tup (lk.map D.int)] h) fun d h' => ∃ q t, d = .ref q ∧ h' = h ++ t ∧ h'[q]? = some (stO (renS S lb lk)) by
    obtain ⟨d, h', e, q, t, rfl, rfl, e2⟩ := key.get
    exact ⟨q, t, e, e2⟩
  obtain ⟨b, t, e, q⟩ := cond1 (h := h ++ [.lst (S.blocks.map bD)]) (v0 := some (.ref p)) (v2 := some (.tup (lk.map D.int))) (v4 := none) (v5 := none) (v6 := none) (v7 := none) (v8 := none) (v9 := none) o (vd_old hv) get_last
  have hb : b = true := q.mpr ⟨lb, rfl, eb⟩
  subst hb
  obtain ⟨b, t2, e2, q2⟩ := cond2 (h := h ++ [.lst (S.blocks.map bD)] ++ t) (p := p) (v1 := some (.tup (lb.map D.int))) (v3 := some (.ref h.length)) (v4 := none) (v5 := none) (v6 := none) (v7 := none) (v8 := none) (v9 := none) o (vd_old (vd_old hw)) (old (old hp))
  have hb : b = true := q2.mpr ⟨lk, rfl, ek⟩
  subst hb
  refine ok_run ?_
  show NX (g_renamed [some (.ref p), some (.tup (lb.map D.int)), some (.tup (lk.map D.int)), none, none, none, none, none, none, none] h) _ _
  unfold g_renamed
  rw [x_seq, set_blocks hp, seq_nx]
  refine nx_seq (nx_ifF e (nx_next ?_))
  refine nx_seq (nx_ifF e2 (nx_next ?_))
  refine NX.mono (rn_tail (N := fun _ _ => False) (h := h ++ [.lst (S.blocks.map bD)] ++ t ++ t2) o eb ek (old (old (old hp))) (old (old get_last))) (fun _ _ z => False.elim z) ?_
  rintro d _ ⟨q, u, rfl, rfl, e3⟩
  exact ⟨q, [.lst (S.blocks.map bD)] ++ t ++ t2 ++ u, rfl, by simp, e3⟩
end
end Sh.k09

set_option linter.all false
set_option maxRecDepth 100000
namespace Sh.k09
open PySem L2 PyProof.Rows Sh
section
variable {S : Sd} {pages : Nat} {h : Hm} {p : Nat} {lb lk : List Int} {v w : D}
theorem of_okE {r : RD} {d : D} {h : Hm} (x : OK r fun d1 h1 => d1 = d ∧ h1 = h) : r = .ok d h := by
  obtain ⟨d1, h1, e, rfl, rfl⟩ := x.get
  exact e
theorem subN : subT [(("NoNames", "NoNames"), true)] "NoNames" "NoNames" = some true := by decide
theorem told_no {m : Str} {t : Hm} (e1 : m_renamed [.ref p, v, w] h = .exc "NoNames" [("part", .str m)] (h ++ t)) : m__law_told [.ref p, v, w] h = .ok (.tup [.str "no", .str m]) (h ++ t) := by
  have ea : (eArgs m_renamed [(eVar 0), (eVar 1), (eVar 2)]) [some (.ref p), some v, some w, some .non, none] h = .exc "NoNames" [("part", .str m)] (h ++ t) := by
    simp -implicitDefEqProofs only [x_args, evR_cons, evR_nil, x_var, List.getElem?_cons_zero, List.getElem?_cons_succ, ofO_some, RD.bind_ok, e1]
  have e2 : (gSet 3 (eTup [(eC (.str "stand")), (eMeth "Stand" "shape" m_Stand_shape (eArgs m_renamed [(eVar 0), (eVar 1), (eVar 2)]) [])])) [some (.ref p), some v, some w, some .non, none] h = .exc "NoNames" [("part", .str m)] [some (.ref p), some v, some w, some .non, none] (h ++ t) := by
    simp only [x_set, x_tup, evR_cons, x_c, RD.bind_ok, eMeth]
    simp only [ea, RD.bind_exc, RD.st_exc]
  rw [m__law_told, x_run]
  show ((gSeq _ _) [some (.ref p), some v, some w, none, none] h).out = _
  rw [x_seq, x_set, x_c, RD.st_ok, seq_nx]
  simp only [List.set_cons_succ, List.set_cons_zero]
  rw [x_seq]
  unfold gTryF
  rw [e2]
  dsimp only
  rw [subN]
  dsimp only
  rw [if_pos rfl]
  rfl
theorem told_ok {q : Nat} {t : Hm} {R : Sd} (e1 : m_renamed [.ref p, v, w] h = .ok (.ref q) (h ++ t)) (e2 : (h ++ t)[q]? = some (stO R)) : m__law_told [.ref p, v, w] h = .ok (.tup [.str "stand", R.enc]) (h ++ t) := by
  have ea : (eArgs m_renamed [(eVar 0), (eVar 1), (eVar 2)]) [some (.ref p), some v, some w, some .non, none] h = .ok (.ref q) (h ++ t) := by
    simp -implicitDefEqProofs only [x_args, evR_cons, evR_nil, x_var, List.getElem?_cons_zero, List.getElem?_cons_succ, ofO_some, RD.bind_ok, e1]
  have e3 : eMeth "Stand" "shape" m_Stand_shape (eArgs m_renamed [(eVar 0), (eVar 1), (eVar 2)]) [] [some (.ref p), some v, some w, some .non, none] h = .ok R.enc (h ++ t) := by
    rw [meth_okv (S := R) ea e2 (by decide), evR_nil, x_shape e2]
  have e4 : (gSet 3 (eTup [(eC (.str "stand")), (eMeth "Stand" "shape" m_Stand_shape (eArgs m_renamed [(eVar 0), (eVar 1), (eVar 2)]) [])])) [some (.ref p), some v, some w, some .non, none] h = .nx [some (.ref p), some v, some w, some (.tup [.str "stand", R.enc]), none] (h ++ t) := by
    simp only [x_set, x_tup, evR_cons, x_c, RD.bind_ok, e3, evR_nil, RD.st_ok]
    rfl
  rw [m__law_told, x_run]
  show ((gSeq _ _) [some (.ref p), some v, some w, none, none] h).out = _
  rw [x_seq, x_set, x_c, RD.st_ok, seq_nx]
  simp only [List.set_cons_succ, List.set_cons_zero]
  rw [x_seq]
  unfold gTryF
  rw [e4]
  rfl
/-- told and due are the same -/
theorem told_due (o : SdOk S pages) (hp : h[p]? = some (stO S)) (hv : Vd 3 h v) (hw : Vd 3 h w) : ∃ t u, m__law_told [.ref p, v, w] h = .ok t (h ++ u) ∧ ∃ u2, m__law_due [S.enc, v, w] (h ++ u) = .ok t (h ++ u ++ u2) ∧ ∀ g, m__law_same 8 [t, t] g = .ok (.bl true) g := by
  have i0 : ∀ h : Hm, dIx S.enc (.int 0) h = .ok (.int S.keys) h := fun h => ix_tup (k := 0) rfl
  have i1 : ∀ h : Hm, dIx S.enc (.int 1) h = .ok (.tup (S.blocks.map bD)) h := fun h => ix_tup (k := 1) rfl
  have hk : ((S.keys.toNat : Nat) : Int) = S.keys := Int.toNat_of_nonneg (by have := o.k1; omega)
  have il : ∀ h : Hm, bLen [.tup (S.blocks.map bD)] h = .ok (.int (S.blocks.length : Nat)) h := fun h => by rw [o_len_t, List.length_map]
  have due1 : ∀ {g : Hm}, Vd 3 g v → ∃ b t, (eNot (eArgs m__law_is_order [(eVar 1), (eArgs bLen [(eBin dIx (eVar 0) (eC (.int 1)))])])) [some S.enc, some v, some w] g = .ok (.bl (!b)) (g ++ t) ∧ (b = true ↔ OrdV v S.blocks.length) := fun {g} hv => by
    obtain ⟨b, t, e, q⟩ := x_lawisorder (n := S.blocks.length) (by have := o.b2; omega) hv
    refine ⟨b, t, ?_, q⟩
    simp -implicitDefEqProofs only [x_not, x_args, evR_cons, evR_nil, x_bin, x_c, x_var, List.getElem?_cons_zero, List.getElem?_cons_succ, ofO_some, RD.bind_ok, i1, il, e, tb_ok]
  have due2 : ∀ {g : Hm}, Vd 3 g w → ∃ b t, (eNot (eArgs m__law_is_order [(eVar 2), (eBin dIx (eVar 0) (eC (.int 0)))])) [some S.enc, some v, some w] g = .ok (.bl (!b)) (g ++ t) ∧ (b = true ↔ OrdV w S.keys.toNat) := fun {g} hw => by
    obtain ⟨b, t, e, q⟩ := x_lawisorder (n := S.keys.toNat) (by have := o.k2; omega) hw
    rw [hk] at e
    refine ⟨b, t, ?_, q⟩
    simp -implicitDefEqProofs only [x_not, x_args, evR_cons, evR_nil, x_bin, x_c, x_var, List.getElem?_cons_zero, List.getElem?_cons_succ, ofO_some, RD.bind_ok, i0, e, tb_ok]
  by_cases hy : OrdV v S.blocks.length
  case neg =>
    obtain ⟨t, e⟩ := ren_bad1 (w := w) o hp hv hy
    obtain ⟨b, t2, e2, q⟩ := due1 (vd_old (t := t) hv)
    have hb : b = false := by
      cases b with
      | true => exact absurd (q.mp rfl) hy
      | false => rfl
    subst hb
    refine ⟨_, t, told_no e, t2, ?_, fun g => x_same 7 _ g rfl⟩
    refine of_okE (ok_run (Q := fun d h' => d = .tup [.str "no", .str "blocks"] ∧ h' = h ++ t ++ t2) ?_)
    show NX (g__law_due [some S.enc, some v, some w] (h ++ t)) _ _
    unfold g__law_due
    refine nx_seq (nx_ifT e2 (nx_ret ?_))
    simp -implicitDefEqProofs only [ok_ok, ok_bind, ok_tb, bl_bl, x_bin, x_args, evR_cons, evR_nil, x_var, x_c, ofO_some, x_and, x_or, x_not, x_eif, x_chain, x_lst, x_tup, x_isi, List.getElem?_cons_zero, List.getElem?_cons_succ, List.set_cons_zero, List.set_cons_succ, o_cmp, o_sub, o_add, o_int, o_is_n, o_is_b, o_isN_n, o_isN_b, q_int, nq_int]
    exact ⟨trivial, trivial⟩
  case pos =>
    by_cases hz : OrdV w S.keys.toNat
    case neg =>
      obtain ⟨t, e⟩ := ren_bad2 o hp hv hw hy hz
      obtain ⟨b, t2, e2, q⟩ := due1 (vd_old (t := t) hv)
      have hb : b = true := q.mpr hy
      subst hb
      obtain ⟨b, t3, e3, q3⟩ := due2 (vd_old (t := t2) (vd_old (t := t) hw))
      have hb : b = false := by
        cases b with
        | true => exact absurd (q3.mp rfl) hz
        | false => rfl
      subst hb
      refine ⟨_, t, told_no e, t2 ++ t3, ?_, fun g => x_same 7 _ g rfl⟩
      refine of_okE (ok_run (Q := fun d h' => d = .tup [.str "no", .str "keys"] ∧ h' = h ++ t ++ (t2 ++ t3)) ?_)
      show NX (g__law_due [some S.enc, some v, some w] (h ++ t)) _ _
      unfold g__law_due
      refine nx_seq (nx_ifF e2 (nx_next ?_))
      refine nx_seq (nx_ifT e3 (nx_ret ?_))
      simp -implicitDefEqProofs only [ok_ok, ok_bind, ok_tb, bl_bl, x_bin, x_args, evR_cons, evR_nil, x_var, x_c, ofO_some, x_and, x_or, x_not, x_eif, x_chain, x_lst, x_tup, x_isi, List.getElem?_cons_zero, List.getElem?_cons_succ, List.set_cons_zero, List.set_cons_succ, o_cmp, o_sub, o_add, o_int, o_is_n, o_is_b, o_isN_n, o_isN_b, q_int, nq_int]
      exact ⟨trivial, by simp⟩
    case pos =>
      obtain ⟨lb, rfl, eb⟩ := hy
      obtain ⟨lk, rfl, ek⟩ := hz
      obtain ⟨q, t, e, eq⟩ := ren_good o hp hv hw eb ek
      obtain ⟨b, t2, e2, q2⟩ := due1 (vd_old (t := t) hv)
      have hb : b = true := q2.mpr ⟨lb, rfl, eb⟩
      subst hb
      obtain ⟨b, t3, e3, q3⟩ := due2 (vd_old (t := t2) (vd_old (t := t) hw))
      have hb : b = true := q3.mpr ⟨lk, rfl, ek⟩
      subst hb
      obtain ⟨t4, e4⟩ := x_lawrenamed o eb ek (h ++ t ++ t2 ++ t3)
      refine ⟨_, t, told_ok e eq, t2 ++ t3 ++ t4, ?_, fun g => same_word (ren_ok o eb ek) "stand" g⟩
      refine of_okE (ok_run (Q := fun d h' => d = .tup [.str "stand", (renS S lb lk).enc] ∧ h' = h ++ t ++ (t2 ++ t3 ++ t4)) ?_)
      show NX (g__law_due [some S.enc, some (.tup (lb.map D.int)), some (.tup (lk.map D.int))] (h ++ t)) _ _
      unfold g__law_due
      refine nx_seq (nx_ifF e2 (nx_next ?_))
      refine nx_seq (nx_ifF e3 (nx_next ?_))
      refine nx_ret ?_
      simp -implicitDefEqProofs only [ok_ok, ok_bind, ok_tb, bl_bl, x_bin, x_args, evR_cons, evR_nil, x_var, x_c, ofO_some, x_and, x_or, x_not, x_eif, x_chain, x_lst, x_tup, x_isi, List.getElem?_cons_zero, List.getElem?_cons_succ, List.set_cons_zero, List.set_cons_succ, o_cmp, o_sub, o_add, o_int, o_is_n, o_is_b, o_isN_n, o_isN_b, q_int, nq_int, e4]
      exact ⟨trivial, by simp⟩
end
end Sh.k09

set_option linter.all false
set_option maxRecDepth 100000
namespace Sh.k09
open PySem L2 PyProof.Rows Sh
theorem vd_ints {l : List Int} (h : l.length < 1000000) (g : Hm) : Vd 3 g (.tup (l.map D.int)) := ⟨by rw [List.length_map]; exact h, fun d hd => by
  obtain ⟨i, _, rfl⟩ := List.mem_map.mp hd
  exact fl_int i _ _⟩
theorem law_true : ∀ ns : List Int, ns.length ≤ 63 → ∃ h', m_law [.scl (ns.map D.int)] [] = .ok (.bl true) h' := by
  intro ns hns
  suffices hh : OK (m_law [.scl (ns.map D.int)] []) (fun d _ => d = .bl true) by
    obtain ⟨d, h', e, hd⟩ := hh.get
    exact ⟨h', by rw [e, hd]⟩
  refine ok_run ?_
  show NX (g_law [some (.scl (ns.map D.int)), none, none, none, none] []) _ _
  unfold g_law
  refine nx_seq (nx_set ?_)
  simp -implicitDefEqProofs only [ok_ok, ok_bind, ok_tb, bl_bl, x_bin, x_args, evR_cons, evR_nil, x_var, x_c, ofO_some, x_and, x_or, x_not, x_eif, x_chain, x_lst, x_tup, x_isi, List.getElem?_cons_zero, List.getElem?_cons_succ, List.set_cons_zero, List.set_cons_succ, o_cmp, o_sub, o_add, o_int, o_is_n, o_is_b, o_isN_n, o_isN_b, q_int, nq_int]
  refine (x_any (ns := ns) []).mono ?_
  rintro _ h ⟨S, P, o, rfl⟩
  try simp -implicitDefEqProofs only [ok_ok, ok_bind, ok_tb, bl_bl, x_bin, x_args, evR_cons, evR_nil, x_var, x_c, ofO_some, x_and, x_or, x_not, x_eif, x_chain, x_lst, x_tup, x_isi, List.getElem?_cons_zero, List.getElem?_cons_succ, List.set_cons_zero, List.set_cons_succ, o_cmp, o_sub, o_add, o_int, o_is_n, o_is_b, o_isN_n, o_isN_b, q_int, nq_int]
  refine nx_seq (nx_set ?_)
  obtain ⟨p, t1, f1, hp, _⟩ := x_stand o h
  simp -implicitDefEqProofs only [ok_ok, ok_bind, ok_tb, bl_bl, x_bin, x_args, evR_cons, evR_nil, x_var, x_c, ofO_some, x_and, x_or, x_not, x_eif, x_chain, x_lst, x_tup, x_isi, List.getElem?_cons_zero, List.getElem?_cons_succ, List.set_cons_zero, List.set_cons_succ, o_cmp, o_sub, o_add, o_int, o_is_n, o_is_b, o_isN_n, o_isN_b, q_int, nq_int, f1]
  generalize h ++ t1 = G at hp
  have i0 : ∀ h : Hm, dIx S.enc (.int 0) h = .ok (.int S.keys) h := fun h => ix_tup (k := 0) rfl
  have i1 : ∀ h : Hm, dIx S.enc (.int 1) h = .ok (.tup (S.blocks.map bD)) h := fun h => ix_tup (k := 1) rfl
  have hk : ((S.keys.toNat : Nat) : Int) = S.keys := Int.toNat_of_nonneg (by have := o.k1; omega)
  have il : ∀ h : Hm, bLen [.tup (S.blocks.map bD)] h = .ok (.int (S.blocks.length : Nat)) h := fun h => by rw [o_len_t, List.length_map]
  obtain ⟨c1, ec1⟩ := x_cell ns 11 G (by omega)
  obtain ⟨lb, u1, el1, eb⟩ := x_laworder c1 S.blocks.length (by have := o.b2; omega) G
  have lbl := ord_len eb
  refine nx_seq (nx_set ?_)
  simp -implicitDefEqProofs only [ok_ok, ok_bind, ok_tb, bl_bl, x_bin, x_args, evR_cons, evR_nil, x_var, x_c, ofO_some, x_and, x_or, x_not, x_eif, x_chain, x_lst, x_tup, x_isi, List.getElem?_cons_zero, List.getElem?_cons_succ, List.set_cons_zero, List.set_cons_succ, o_cmp, o_sub, o_add, o_int, o_is_n, o_is_b, o_isN_n, o_isN_b, q_int, nq_int, ec1, i1, il, el1]
  obtain ⟨c2, ec2⟩ := x_cell ns 12 (G ++ u1) (by omega)
  obtain ⟨lk, u2, el2, ek⟩ := x_laworder c2 S.keys.toNat (by have := o.k2; omega) (G ++ u1)
  have lkl := ord_len ek
  rw [hk] at el2
  refine nx_seq (nx_set ?_)
  simp -implicitDefEqProofs only [ok_ok, ok_bind, ok_tb, bl_bl, x_bin, x_args, evR_cons, evR_nil, x_var, x_c, ofO_some, x_and, x_or, x_not, x_eif, x_chain, x_lst, x_tup, x_isi, List.getElem?_cons_zero, List.getElem?_cons_succ, List.set_cons_zero, List.set_cons_succ, o_cmp, o_sub, o_add, o_int, o_is_n, o_is_b, o_isN_n, o_isN_b, q_int, nq_int, ec2, i0, el2]
  have hb9 := o.b2
  have hb1 := o.b1
  have hk9 := o.k2
  have hk1 := o.k1
  have hp2 : (G ++ u1 ++ u2)[p]? = some (stO S) := old (old hp)
  generalize G ++ u1 ++ u2 = G2 at hp2
  obtain ⟨q, u3, er, eq⟩ := ren_good o hp2 (vd_ints (by omega) G2) (vd_ints (by omega) G2) eb ek
  have et := told_ok er eq
  obtain ⟨u4, lr⟩ := x_lawrenamed o eb ek (G2 ++ u3)
  have sw := same_word (ren_ok (lb := lb) (lk := lk) o eb ek) "stand" (G2 ++ u3 ++ u4)
  refine nx_seq (nx_ifF (h1 := G2 ++ u3 ++ u4) ?_ (nx_next ?_))
  · simp -implicitDefEqProofs only [x_not, x_args, evR_cons, evR_nil, x_var, x_tup, x_c, List.getElem?_cons_zero, List.getElem?_cons_succ, ofO_some, RD.bind_ok, et, lr, sw, tb_ok, Bool.not_true]
  have hp3 : (G2 ++ u3 ++ u4)[p]? = some (stO S) := old (old hp2)
  generalize G2 ++ u3 ++ u4 = G3 at hp3
  obtain ⟨c3, ec3⟩ := x_cell ns 13 G3 (by omega)
  refine nx_seq (nx_set ?_)
  simp -implicitDefEqProofs only [ok_ok, ok_bind, ok_tb, bl_bl, x_bin, x_args, evR_cons, evR_nil, x_var, x_c, ofO_some, x_and, x_or, x_not, x_eif, x_chain, x_lst, x_tup, x_isi, List.getElem?_cons_zero, List.getElem?_cons_succ, List.set_cons_zero, List.set_cons_succ, o_cmp, o_sub, o_add, o_int, o_is_n, o_is_b, o_isN_n, o_isN_b, q_int, nq_int, ec3]
  refine (x_orderbent (l := lb) (by omega) (by omega) c3 G3).mono ?_
  rintro v _ ⟨u5, rfl, hv⟩
  obtain ⟨c4, ec4⟩ := x_cell ns 14 (G3 ++ u5) (by omega)
  refine nx_seq (nx_set ?_)
  simp -implicitDefEqProofs only [ok_ok, ok_bind, ok_tb, bl_bl, x_bin, x_args, evR_cons, evR_nil, x_var, x_c, ofO_some, x_and, x_or, x_not, x_eif, x_chain, x_lst, x_tup, x_isi, List.getElem?_cons_zero, List.getElem?_cons_succ, List.set_cons_zero, List.set_cons_succ, o_cmp, o_sub, o_add, o_int, o_is_n, o_is_b, o_isN_n, o_isN_b, q_int, nq_int, ec4]
  refine (x_orderbent (l := lk) (by omega) (by omega) c4 (G3 ++ u5)).mono ?_
  rintro w _ ⟨u6, rfl, hw⟩
  have hp4 : (G3 ++ u5 ++ u6)[p]? = some (stO S) := old (old hp3)
  have hv4 : Vd 3 (G3 ++ u5 ++ u6) v := vd_old hv
  generalize G3 ++ u5 ++ u6 = G4 at hp4 hv4 hw
  obtain ⟨t, u7, e7, u8, e8, sm⟩ := told_due o hp4 hv4 hw
  have sm8 := sm (G4 ++ u7 ++ u8)
  refine nx_seq (nx_ifF (h1 := G4 ++ u7 ++ u8) ?_ (nx_next ?_))
  · simp -implicitDefEqProofs only [x_not, x_args, evR_cons, evR_nil, x_var, List.getElem?_cons_zero, List.getElem?_cons_succ, ofO_some, RD.bind_ok, e7, e8, sm8, tb_ok, Bool.not_true]
  have hp5 : (G4 ++ u7 ++ u8)[p]? = some (stO S) := old (old hp4)
  have es : eMeth "Stand" "shape" m_Stand_shape (eVar 2) [] [some (.scl (ns.map D.int)), some S.enc, some (.ref p), some v, some w] (G4 ++ u7 ++ u8) = .ok S.enc (G4 ++ u7 ++ u8) := by
    rw [meth_okv (S := S) (p := p) (h1 := G4 ++ u7 ++ u8) rfl hp5 (by decide), evR_nil, x_shape hp5]
  refine nx_ret (OK.of (d := .bl true) (h := G4 ++ u7 ++ u8) ?_ rfl)
  rw [x_args, evR_cons, es]
  simp -implicitDefEqProofs only [RD.bind_ok, evR_cons, evR_nil, x_var, List.getElem?_cons_zero, List.getElem?_cons_succ, ofO_some, same_encD o]
end Sh.k09


open PySem PySem.W PyProof.Rows in
set_option maxRecDepth 100000 in
set_option maxHeartbeats 0 in
theorem PySem.Challenge.cw_spentblocks_k09_renamed_by_hand_holds : PySem.Challenge.rw_spentblocks_k09_renamed_by_hand.Holds := by
  w_on; o_law; k_head; (case hw => w_witness2)
  k_fill
  refine Sh.walkS (l := PySem.Challenge.rw_spentblocks_k09_renamed_by_hand) (k := 10) rfl rfl ⟨rfl, by decide, by decide⟩ (fun w h Y => PySem.W.kIn_of Y) ?F
  case F =>
    intro w mg fa h KX G hmg
    refine' Sh.k09.all_mk Sh.k09.law_true KX G hmg ?b_all ?b_any ?b_bool ?b_enumerate ?b_int ?b_isinstance ?b_len ?b_list ?b_range ?b_set ?b_sorted ?b_str ?b_tuple ?c_MOST_BLOCKS ?c_MOST_KEYS ?c_MOST_LEFT ?c_MOST_LOSSES ?c_MOST_PAGES ?a_Stand ?pg_Stand ?hd_Stand ?po_Stand ?sa_Stand ?mk_Stand ?kc_Stand ?na_Stand__shape ?g_NoNames ?g0_NoNames ?ox_NoNames ?sa_NoNames ?be_NoNames ?te_NoNames ?ke_NoNames ?no_NoNames ?ga_NoNames ?gg_NoNames ?hd_NoNames ?ic_NoNames ?ti_NoNames ?l_NoNames ?rd_NoNames ?rg_NoNames ?v0_NoNames ?s_NoNames_NoNames ?a_f__law_cell ?l_f__law_cell ?a_f__law_mixed ?l_f__law_mixed ?a_f__law_digits ?l_f__law_digits ?a_f__law_left ?l_f__law_left ?a_f__law_pages ?l_f__law_pages ?a_f__law_block ?l_f__law_block ?a_f__law_drawn ?l_f__law_drawn ?a_f__law_small_left ?l_f__law_small_left ?a_f__law_small ?l_f__law_small ?a_f__law_any_stand ?l_f__law_any_stand ?a_f_is_whole ?l_f_is_whole ?a_f_is_left ?l_f_is_left ?a_f_is_key ?l_f_is_key ?a_f_is_block ?l_f_is_block ?a_f_are_blocks ?l_f_are_blocks ?a_f_wrong_part ?l_f_wrong_part ?a_f_Stand_init ?i_f_Stand_init ?l_f_Stand_init ?a_f__law_stand ?l_f__law_stand ?a_f__law_order ?l_f__law_order ?a_f_Stand_shape ?i_f_Stand_shape ?l_f_Stand_shape ?a_f_Stand_blocks ?i_f_Stand_blocks ?l_f_Stand_blocks ?a_f_is_count ?l_f_is_count ?a_f_is_order ?l_f_is_order ?a_f_Stand_many ?i_f_Stand_many ?l_f_Stand_many ?a_f_Stand_fails ?i_f_Stand_fails ?l_f_Stand_fails ?a_f_Stand_cuts ?i_f_Stand_cuts ?l_f_Stand_cuts ?a_f_Stand_asked ?i_f_Stand_asked ?l_f_Stand_asked ?a_f_renamed ?l_f_renamed ?a_f__law_told ?l_f__law_told ?a_f__law_renamed ?l_f__law_renamed ?a_f__law_same ?l_f__law_same ?a_f__law_odd ?l_f__law_odd ?a_f__law_order_bent ?l_f__law_order_bent ?a_f__law_is_int ?l_f__law_is_int ?a_f__law_is_order ?l_f__law_is_order ?a_f__law_due ?l_f__law_due ?a_f_law ?l_f_law
    (case b_all => k_is)
    (case b_any => k_is)
    (case b_bool => k_is)
    (case b_enumerate => k_is)
    (case b_int => k_is)
    (case b_isinstance => k_is)
    (case b_len => k_is)
    (case b_list => k_is)
    (case b_range => k_is)
    (case b_set => k_is)
    (case b_sorted => k_is)
    (case b_str => k_is)
    (case b_tuple => k_is)
    (case c_MOST_BLOCKS => k_is)
    (case c_MOST_KEYS => k_is)
    (case c_MOST_LEFT => k_is)
    (case c_MOST_LOSSES => k_is)
    (case c_MOST_PAGES => k_is)
    (case a_Stand => k_is)
    (case pg_Stand => k_is)
    (case hd_Stand => k_is)
    (case po_Stand => k_is)
    (case sa_Stand => k_is)
    (case mk_Stand => k_is)
    (case kc_Stand => k_is)
    (case na_Stand__shape => k_is)
    (case g_NoNames => k_is)
    (case g0_NoNames => k_is)
    (case ox_NoNames => (refine' Sh.oxFact ?l ?m; (case l => k_is); (case m => decide +kernel)))
    (case sa_NoNames => k_is)
    (case be_NoNames => k_is)
    (case te_NoNames => k_is)
    (case ke_NoNames => k_is)
    (case no_NoNames => k_is)
    (case ga_NoNames => k_is)
    (case gg_NoNames => k_is)
    (case hd_NoNames => k_is)
    (case ic_NoNames => k_is)
    (case ti_NoNames => k_is)
    (case l_NoNames => (refine' Sh.fnFact ?l ?c ?k; (case l => k_is); (case c => k_is); (case k => k_is)))
    (case rd_NoNames => k_is)
    (case rg_NoNames => k_is)
    (case v0_NoNames => k_is)
    (case s_NoNames_NoNames => first | rfl | k_is)
    (case a_f__law_cell => k_is)
    (case l_f__law_cell => (refine' Sh.fnFact ?l ?c ?k; (case l => k_is); (case c => k_is); (case k => k_is)))
    (case a_f__law_mixed => k_is)
    (case l_f__law_mixed => (refine' Sh.fnFact ?l ?c ?k; (case l => k_is); (case c => k_is); (case k => k_is)))
    (case a_f__law_digits => k_is)
    (case l_f__law_digits => (refine' Sh.fnFact ?l ?c ?k; (case l => k_is); (case c => k_is); (case k => k_is)))
    (case a_f__law_left => k_is)
    (case l_f__law_left => (refine' Sh.fnFact ?l ?c ?k; (case l => k_is); (case c => k_is); (case k => k_is)))
    (case a_f__law_pages => k_is)
    (case l_f__law_pages => (refine' Sh.fnFact ?l ?c ?k; (case l => k_is); (case c => k_is); (case k => k_is)))
    (case a_f__law_block => k_is)
    (case l_f__law_block => (refine' Sh.fnFact ?l ?c ?k; (case l => k_is); (case c => k_is); (case k => k_is)))
    (case a_f__law_drawn => k_is)
    (case l_f__law_drawn => (refine' Sh.fnFact ?l ?c ?k; (case l => k_is); (case c => k_is); (case k => k_is)))
    (case a_f__law_small_left => k_is)
    (case l_f__law_small_left => (refine' Sh.fnFact ?l ?c ?k; (case l => k_is); (case c => k_is); (case k => k_is)))
    (case a_f__law_small => k_is)
    (case l_f__law_small => (refine' Sh.fnFact ?l ?c ?k; (case l => k_is); (case c => k_is); (case k => k_is)))
    (case a_f__law_any_stand => k_is)
    (case l_f__law_any_stand => (refine' Sh.fnFact ?l ?c ?k; (case l => k_is); (case c => k_is); (case k => k_is)))
    (case a_f_is_whole => k_is)
    (case l_f_is_whole => (refine' Sh.fnFact ?l ?c ?k; (case l => k_is); (case c => k_is); (case k => k_is)))
    (case a_f_is_left => k_is)
    (case l_f_is_left => (refine' Sh.fnFact ?l ?c ?k; (case l => k_is); (case c => k_is); (case k => k_is)))
    (case a_f_is_key => k_is)
    (case l_f_is_key => (refine' Sh.fnFact ?l ?c ?k; (case l => k_is); (case c => k_is); (case k => k_is)))
    (case a_f_is_block => k_is)
    (case l_f_is_block => (refine' Sh.fnFact ?l ?c ?k; (case l => k_is); (case c => k_is); (case k => k_is)))
    (case a_f_are_blocks => k_is)
    (case l_f_are_blocks => (refine' Sh.fnFact ?l ?c ?k; (case l => k_is); (case c => k_is); (case k => k_is)))
    (case a_f_wrong_part => k_is)
    (case l_f_wrong_part => (refine' Sh.fnFact ?l ?c ?k; (case l => k_is); (case c => k_is); (case k => k_is)))
    (case a_f_Stand_init => k_is)
    (case i_f_Stand_init => k_is)
    (case l_f_Stand_init => (refine' Sh.fnFact ?l ?c ?k; (case l => k_is); (case c => k_is); (case k => k_is)))
    (case a_f__law_stand => k_is)
    (case l_f__law_stand => (refine' Sh.fnFact ?l ?c ?k; (case l => k_is); (case c => k_is); (case k => k_is)))
    (case a_f__law_order => k_is)
    (case l_f__law_order => (refine' Sh.fnFact ?l ?c ?k; (case l => k_is); (case c => k_is); (case k => k_is)))
    (case a_f_Stand_shape => k_is)
    (case i_f_Stand_shape => k_is)
    (case l_f_Stand_shape => (refine' Sh.fnFact ?l ?c ?k; (case l => k_is); (case c => k_is); (case k => k_is)))
    (case a_f_Stand_blocks => k_is)
    (case i_f_Stand_blocks => k_is)
    (case l_f_Stand_blocks => (refine' Sh.fnFact ?l ?c ?k; (case l => k_is); (case c => k_is); (case k => k_is)))
    (case a_f_is_count => k_is)
    (case l_f_is_count => (refine' Sh.fnFact ?l ?c ?k; (case l => k_is); (case c => k_is); (case k => k_is)))
    (case a_f_is_order => k_is)
    (case l_f_is_order => (refine' Sh.fnFact ?l ?c ?k; (case l => k_is); (case c => k_is); (case k => k_is)))
    (case a_f_Stand_many => k_is)
    (case i_f_Stand_many => k_is)
    (case l_f_Stand_many => (refine' Sh.fnFact ?l ?c ?k; (case l => k_is); (case c => k_is); (case k => k_is)))
    (case a_f_Stand_fails => k_is)
    (case i_f_Stand_fails => k_is)
    (case l_f_Stand_fails => (refine' Sh.fnFact ?l ?c ?k; (case l => k_is); (case c => k_is); (case k => k_is)))
    (case a_f_Stand_cuts => k_is)
    (case i_f_Stand_cuts => k_is)
    (case l_f_Stand_cuts => (refine' Sh.fnFact ?l ?c ?k; (case l => k_is); (case c => k_is); (case k => k_is)))
    (case a_f_Stand_asked => k_is)
    (case i_f_Stand_asked => k_is)
    (case l_f_Stand_asked => (refine' Sh.fnFact ?l ?c ?k; (case l => k_is); (case c => k_is); (case k => k_is)))
    (case a_f_renamed => k_is)
    (case l_f_renamed => (refine' Sh.fnFact ?l ?c ?k; (case l => k_is); (case c => k_is); (case k => k_is)))
    (case a_f__law_told => k_is)
    (case l_f__law_told => (refine' Sh.fnFact ?l ?c ?k; (case l => k_is); (case c => k_is); (case k => k_is)))
    (case a_f__law_renamed => k_is)
    (case l_f__law_renamed => (refine' Sh.fnFact ?l ?c ?k; (case l => k_is); (case c => k_is); (case k => k_is)))
    (case a_f__law_same => k_is)
    (case l_f__law_same => (refine' Sh.fnFact ?l ?c ?k; (case l => k_is); (case c => k_is); (case k => k_is)))
    (case a_f__law_odd => k_is)
    (case l_f__law_odd => (refine' Sh.fnFact ?l ?c ?k; (case l => k_is); (case c => k_is); (case k => k_is)))
    (case a_f__law_order_bent => k_is)
    (case l_f__law_order_bent => (refine' Sh.fnFact ?l ?c ?k; (case l => k_is); (case c => k_is); (case k => k_is)))
    (case a_f__law_is_int => k_is)
    (case l_f__law_is_int => (refine' Sh.fnFact ?l ?c ?k; (case l => k_is); (case c => k_is); (case k => k_is)))
    (case a_f__law_is_order => k_is)
    (case l_f__law_is_order => (refine' Sh.fnFact ?l ?c ?k; (case l => k_is); (case c => k_is); (case k => k_is)))
    (case a_f__law_due => k_is)
    (case l_f__law_due => (refine' Sh.fnFact ?l ?c ?k; (case l => k_is); (case c => k_is); (case k => k_is)))
    (case a_f_law => k_is)
    (case l_f_law => (refine' Sh.fnFact ?l ?c ?k; (case l => k_is); (case c => k_is); (case k => k_is)))
