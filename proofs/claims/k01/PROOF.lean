import PyProof.Rows.All
import HandS.ForMost
import HandS.ForExc
import HandS.SetKeys
import HandS.TupAny
import HandS.StrMore
import HandS.RaiseMore
import HandS.IsInst
import HandS.Flow
import HandS.Deep
import HandS.Zip
import HandS.Comp
import HandS.Iter
import HandS.Text
import HandS.TryMany
import HandS.ExcInit
import HandS.ExcField
import HandS.SetBool
import HandS.Sort
import HandS.EndBits
import KE.GoesMore
import PyProof.Draws
import PyProof.EnumMake
import Wide.All
import OpenK.AllK
import Wide.FinOn
import PySem.Challenge.RW_surestreams_k01_words_columns_rows
set_option Elab.async false
set_option linter.all false
set_option maxRecDepth 100000
namespace Pz
open PySem L2

/-! ### values, objects -/
inductive SV where
  | non | bl (b : Bool) | int (i : Int) | str (x : Str)
  | tup (xs : List SV) | ref (i : Nat) | obj (c : Nat) | ty (n : String) | scr (ns : List Int) | xn (c j : Nat) | rng (lo hi : Int)
instance : Inhabited SV := ⟨.non⟩

mutual
def SV.beq : SV → SV → Bool
  | .non, .non => true
  | .bl a, .bl b => a == b
  | .int a, .int b => decide (a = b)
  | .str a, .str b => decide (a = b)
  | .tup a, .tup b => SV.beqs a b
  | .ref a, .ref b => decide (a = b)
  | .obj a, .obj b => decide (a = b)
  | .ty a, .ty b => decide (a = b)
  | .scr a, .scr b => decide (a = b)
  | .xn a i, .xn b j => decide (a = b ∧ i = j)
  | .rng a i, .rng b j => decide (a = b ∧ i = j)
  | _, _ => false
def SV.beqs : List SV → List SV → Bool
  | [], [] => true
  | a :: as, b :: bs => SV.beq a b && SV.beqs as bs
  | _, _ => false
end
mutual
theorem SV.beq_eq : ∀ a b : SV, SV.beq a b = true → a = b
  | .tup a, .tup b, h => by rw [SV.beqs_eq a b (by simpa [SV.beq] using h)]
  | .non, b, h => by cases b <;> simp_all [SV.beq]
  | .bl _, b, h => by cases b <;> simp_all [SV.beq]
  | .int _, b, h => by cases b <;> simp_all [SV.beq]
  | .str _, b, h => by cases b <;> simp_all [SV.beq]
  | .ref _, b, h => by cases b <;> simp_all [SV.beq]
  | .obj _, b, h => by cases b <;> simp_all [SV.beq]
  | .ty _, b, h => by cases b <;> simp_all [SV.beq]
  | .scr _, b, h => by cases b <;> simp_all [SV.beq]
  | .xn _ _, b, h => by cases b <;> simp_all [SV.beq]
  | .rng _ _, b, h => by cases b <;> simp_all [SV.beq]
  | .tup _, .non, h => by simp [SV.beq] at h
  | .tup _, .bl _, h => by simp [SV.beq] at h
  | .tup _, .int _, h => by simp [SV.beq] at h
  | .tup _, .str _, h => by simp [SV.beq] at h
  | .tup _, .ref _, h => by simp [SV.beq] at h
  | .tup _, .obj _, h => by simp [SV.beq] at h
  | .tup _, .ty _, h => by simp [SV.beq] at h
  | .tup _, .scr _, h => by simp [SV.beq] at h
  | .tup _, .xn _ _, h => by simp [SV.beq] at h
  | .tup _, .rng _ _, h => by simp [SV.beq] at h
theorem SV.beqs_eq : ∀ a b : List SV, SV.beqs a b = true → a = b
  | [], [], _ => rfl
  | [], _ :: _, h => by simp [SV.beqs] at h
  | _ :: _, [], h => by simp [SV.beqs] at h
  | a :: as, b :: bs, h => by
    simp only [SV.beqs, Bool.and_eq_true] at h
    rw [SV.beq_eq a b h.1, SV.beqs_eq as bs h.2]
end
mutual
theorem SV.beq_refl : ∀ a : SV, SV.beq a a = true
  | .tup a => by simpa [SV.beq] using SV.beqs_refl a
  | .non | .bl _ | .int _ | .str _ | .ref _ | .obj _ | .ty _ | .scr _ | .xn _ _ | .rng _ _ => by simp [SV.beq]
theorem SV.beqs_refl : ∀ a : List SV, SV.beqs a a = true
  | [] => rfl
  | a :: as => by simp [SV.beqs, SV.beq_refl a, SV.beqs_refl as]
end
instance : DecidableEq SV := fun a b => if h : SV.beq a b = true then isTrue (SV.beq_eq a b h) else isFalse fun e => h (e ▸ SV.beq_refl a)

inductive SO where
  | lst (xs : List SV) | dct (kvs : List (Key × SV)) | ins (c : Nat) (fs : List (Str × SV))
  | exc (c : Nat) (fs : List (Str × SV)) | set (ks : List Key)
  deriving DecidableEq
def hasK (ks : List Key) (k : Key) : Bool := ks.any fun j => decide (j = k)
instance : Inhabited SO := ⟨.lst []⟩

/-! refs lie below mx -/
mutual
def SV.mx : SV → Nat
  | .tup xs => SV.mxs xs
  | .ref i => i + 1
  | .xn _ j => j + 1
  | _ => 0
def SV.mxs : List SV → Nat
  | [] => 0
  | x :: xs => max (SV.mx x) (SV.mxs xs)
end
def fmx (fs : List (Str × SV)) : Nat := SV.mxs (fs.map (·.2))
def SO.mx : SO → Nat
  | .lst xs => SV.mxs xs
  | .dct kvs => SV.mxs (kvs.map (·.2))
  | .ins _ fs => fmx fs
  | .exc _ fs => fmx fs
  | .set _ => 0

abbrev Hs := List SO
abbrev SEnv := List (Option SV)
inductive Out (α : Type) where
  | ok (a : α) (h : Hs) | exc (c : Nat) (fs : List (Str × SV)) (h : Hs) | stuck
def Out.bnd {α β : Type} (r : Out α) (f : α → Hs → Out β) : Out β := match r with
  | .ok a h => f a h
  | .exc c fs h => .exc c fs h
  | .stuck => .stuck
@[simp] theorem Out.bnd_ok {α β : Type} (a : α) (h : Hs) (f : α → Hs → Out β) : (Out.ok a h).bnd f = f a h := rfl
@[simp] theorem Out.bnd_exc {α β : Type} (c : Nat) (fs : List (Str × SV)) (h : Hs) (f : α → Hs → Out β) : (Out.exc c fs h : Out α).bnd f = .exc c fs h := rfl
@[simp] theorem Out.bnd_stuck {α β : Type} (f : α → Hs → Out β) : (Out.stuck : Out α).bnd f = .stuck := rfl
abbrev EF := SEnv → Hs → Out SV
abbrev LF := SEnv → Hs → Out (List SV)

/-! ### how they stand in the abstract heap -/
structure Cz where
  P : Program
  w : World
  K : PySem.W.Frag
  G : Nat → Addr
section
variable (Z : Cz) (ρ : Nat → Addr) (n : Nat) (H : Hp)
mutual
inductive RV : SV → V → Prop
  | non : RV .non .non
  | bl (b : Bool) : RV (.bl b) (.bl b)
  | int (i : Int) : RV (.int i) (.int i)
  | str (x : Str) : RV (.str x) (.str x)
  | tup {a : Addr} {xs : List SV} {vs : List V} : SqT Z.K H a vs → RVs xs vs → RV (.tup xs) (.ref a)
  | ref {i : Nat} : i < n → RV (.ref i) (.ref (ρ i))
  | obj (c : Nat) : RV (.obj c) (.ref (Z.G c))
  | ty (t : String) : RV (.ty t) (.ty t)
  | scr {a : Addr} {ns : List Int} : ((∃ o, H a = some (.frz o (.lst (ns.map V.int)))) ∨ (∀ H', SqL Z.K H' a (ns.map V.int))) → RV (.scr ns) (.ref a)
  | xn {c j : Nat} {a : Addr} {oe : Obj} {u : HO} : j < n → H a = some (.frz oe u) → oe.cls = .ref (Z.G c) → oe.dict = some (ρ j) → (∃ vs, oe.data = .fields vs) → RV (.xn c j) (.ref a)
  | rng {lo hi : Int} {a : Addr} {o : Obj} : H a = some (.frz o (.rng lo hi)) → RV (.rng lo hi) (.ref a)
inductive RVs : List SV → List V → Prop
  | nil : RVs [] []
  | cons {x : SV} {v : V} {xs : List SV} {vs : List V} : RV x v → RVs xs vs → RVs (x :: xs) (v :: vs)
end
inductive RF : List (Str × SV) → List (Str × V) → Prop
  | nil : RF [] []
  | cons {f : Str} {x : SV} {v : V} {xs : List (Str × SV)} {vs : List (Str × V)} : RV Z ρ n H x v → RF xs vs → RF ((f, x) :: xs) ((f, v) :: vs)
inductive RK : List (Key × SV) → List (Key × V) → Prop
  | nil : RK [] []
  | cons {f : Key} {x : SV} {v : V} {xs : List (Key × SV)} {vs : List (Key × V)} : RV Z ρ n H x v → RK xs vs → RK ((f, x) :: xs) ((f, v) :: vs)
def RO (a : Addr) : SO → Prop
  | .lst xs => ∃ vs, H a = some (.lst vs) ∧ RVs Z ρ n H xs vs
  | .dct kvs => ∃ vs, H a = some (.dK vs) ∧ RK Z ρ n H kvs vs
  | .ins c fs => ∃ dx vs, H a = some (.ins (Z.G c) dx vs) ∧ RF Z ρ n H fs vs
  | .exc _ fs => ∃ vs, H a = some (.xd vs) ∧ RF Z ρ n H fs vs
  | .set ks => ks.Nodup ∧ H a = some (SetK Z.P Z.w a (hasK ks) ks.length)
end
structure RHp (Z : Cz) (ρ : Nat → Addr) (h : Hs) (H : Hp) : Prop where
  ob : ∀ i o, h[i]? = some o → RO Z ρ h.length H (ρ i) o
  inj : ∀ i j, i < h.length → j < h.length → ρ i = ρ j → i = j
structure Gro (ρ : Nat → Addr) (h : Hs) (H : Hp) (ρ' : Nat → Addr) (h' : Hs) (H' : Hp) : Prop where
  len : h.length ≤ h'.length
  agree : ∀ i, i < h.length → ρ' i = ρ i
  fr : ∀ a o, H a = some o → (∀ i, i < h.length → ρ i ≠ a) → H' a = some o
  fresh : ∀ j, h.length ≤ j → j < h'.length → H (ρ' j) = none
structure REnv (Z : Cz) (ρ : Nat → Addr) (n : Nat) (H : Hp) (σs : SEnv) (σ : St) : Prop where
  len : σs.length = σ.length
  val : ∀ (j : Nat) (x : SV), σs[j]? = some (some x) → ∃ v, σ[j]? = some (some v) ∧ RV Z ρ n H x v

/-! ### lemmas -/
section
variable {Z : Cz} {ρ ρ' ρ2 : Nat → Addr} {n m : Nat} {H H' H2 : Hp} {h h' h2 : Hs}
theorem RVs.length : ∀ {xs : List SV} {vs : List V}, RVs Z ρ n H xs vs → xs.length = vs.length
  | _, _, .nil => rfl
  | _, _, .cons _ t => by simp [RVs.length t]
theorem RVs.get : ∀ {xs : List SV} {vs : List V} {i : Nat} {x : SV}, RVs Z ρ n H xs vs → xs[i]? = some x → ∃ v, vs[i]? = some v ∧ RV Z ρ n H x v
  | _, _, _, _, .nil, e => by simp at e
  | _, _, 0, _, .cons r _, e => by simp at e; subst e; exact ⟨_, rfl, r⟩
  | _, _, i + 1, x, .cons _ t, e => by
    obtain ⟨u, h1, h2⟩ := RVs.get (i := i) (x := x) t (by simpa using e)
    exact ⟨u, by simpa using h1, h2⟩
theorem RVs.app : ∀ {xs ys : List SV} {us ws : List V}, RVs Z ρ n H xs us → RVs Z ρ n H ys ws → RVs Z ρ n H (xs ++ ys) (us ++ ws)
  | _, _, _, _, .nil, s => s
  | _, _, _, _, .cons r t, s => .cons r (RVs.app t s)
theorem RVs.set {x : SV} {v : V} (r : RV Z ρ n H x v) : ∀ {xs : List SV} {vs : List V} (i : Nat), RVs Z ρ n H xs vs → RVs Z ρ n H (xs.set i x) (vs.set i v)
  | _, _, _, .nil => .nil
  | _, _, 0, .cons _ t => .cons r t
  | _, _, i + 1, .cons q t => .cons q (RVs.set r i t)
theorem RVs.take : ∀ {xs : List SV} {vs : List V} (k : Nat), RVs Z ρ n H xs vs → RVs Z ρ n H (xs.take k) (vs.take k)
  | _, _, 0, _ => .nil
  | _, _, _ + 1, .nil => .nil
  | _, _, k + 1, .cons r t => .cons r (RVs.take k t)
theorem RVs.drop : ∀ {xs : List SV} {vs : List V} (k : Nat), RVs Z ρ n H xs vs → RVs Z ρ n H (xs.drop k) (vs.drop k)
  | _, _, 0, r => r
  | _, _, _ + 1, .nil => .nil
  | _, _, k + 1, .cons _ t => RVs.drop k t

/-- the tracked objects stand apart from tuples and the script -/
theorem RHp.apart (R : RHp Z ρ h H) {i : Nat} (hi : i < h.length) : (∀ xs, H (ρ i) ≠ some (.tup xs)) ∧ (∀ o u, H (ρ i) ≠ some (.frz o u)) ∧ H (ρ i) ≠ none ∧ (∀ y, H (ρ i) ≠ some (.own y)) := by
  have q := R.ob i h[i] (by simp [hi])
  generalize h[i] = o at q
  cases o with
  | lst xs => obtain ⟨vs, e, _⟩ := q; simp [e]
  | dct xs => obtain ⟨vs, e, _⟩ := q; simp [e]
  | ins c fs => obtain ⟨dx, vs, e, _⟩ := q; simp [e]
  | exc c fs => obtain ⟨vs, e, _⟩ := q; simp [e]
  | set ks => obtain ⟨_, e⟩ := q; simp [e, SetK]
theorem Gro.refl : Gro ρ h H ρ h H := ⟨Nat.le_refl _, fun _ _ => rfl, fun _ _ e _ => e, fun j h1 h2 => absurd h2 (Nat.not_lt.mpr h1)⟩
theorem Gro.kept (E : Gro ρ h H ρ' h' H') (R : RHp Z ρ h H) {a : Addr} {o : HO} (e : H a = some o) (ho : (∃ xs, o = .tup xs) ∨ (∃ b u, o = .frz b u) ∨ (∃ y, o = .own y)) : H' a = some o :=
  E.fr a o e fun i hi z => by
    have q := R.apart hi
    subst z
    rcases ho with ⟨xs, rfl⟩ | ⟨b, u, rfl⟩ | ⟨y, rfl⟩
    · exact q.1 _ e
    · exact q.2.1 _ _ e
    · exact q.2.2.2 _ e
theorem Gro.trans (R : RHp Z ρ2 h2 H2) (a : Gro ρ h H ρ2 h2 H2) (b : Gro ρ2 h2 H2 ρ' h' H') : Gro ρ h H ρ' h' H' where
  len := Nat.le_trans a.len b.len
  agree := fun i hi => (b.agree i (Nat.lt_of_lt_of_le hi a.len)).trans (a.agree i hi)
  fr := fun c o e hc => b.fr c o (a.fr c o e hc) fun i hi z => by
    by_cases hl : i < h.length
    · exact hc i hl ((a.agree i hl).symm.trans z)
    · have q := a.fresh i (Nat.not_lt.mp hl) hi
      rw [z, e] at q; cases q
  fresh := fun j h1 hj => by
    by_cases hl : j < h2.length
    · rw [b.agree j hl]; exact a.fresh j h1 hl
    · cases e : H (ρ' j) with
      | none => rfl
      | some o =>
        exfalso
        have q := b.fresh j (Nat.not_lt.mp hl) hj
        by_cases hx : ∃ i, i < h.length ∧ ρ i = ρ' j
        · obtain ⟨i, hi, z⟩ := hx
          have w := (R.apart (Nat.lt_of_lt_of_le hi a.len)).2.2.1
          rw [a.agree i hi, z] at w
          exact w q
        · have w := a.fr _ _ e fun i hi z => hx ⟨i, hi, z⟩
          rw [q] at w; cases w

theorem SqT.ext {K : PySem.W.Frag} (k : ∀ a o, H a = some o → ((∃ xs, o = .tup xs) ∨ (∃ b u, o = .frz b u) ∨ (∃ y, o = .own y)) → H' a = some o) {a : Addr} {xs : List V} (q : SqT K H a xs) : SqT K H' a xs := by
  rcases q with (q | ⟨o, q⟩) | q
  · exact .inl (.inl (k _ _ q (.inl ⟨_, rfl⟩)))
  · exact .inl (.inr ⟨o, k _ _ q (.inr (.inl ⟨_, _, rfl⟩))⟩)
  · exact .inr q
section
variable (k : ∀ a o, H a = some o → ((∃ xs, o = .tup xs) ∨ (∃ b u, o = .frz b u) ∨ (∃ y, o = .own y)) → H' a = some o) (hl : n ≤ m) (ha : ∀ i, i < n → ρ' i = ρ i)
include k hl ha
mutual
theorem RV.ext' : ∀ {x : SV} {v : V}, RV Z ρ n H x v → RV Z ρ' m H' x v
  | _, _, .non => .non
  | _, _, .bl b => .bl b
  | _, _, .int i => .int i
  | _, _, .str x => .str x
  | _, _, .tup q r => .tup (SqT.ext k q) (RVs.ext' r)
  | _, _, .ref (i := i) hi => by rw [← ha i hi]; exact .ref (Nat.lt_of_lt_of_le hi hl)
  | _, _, .obj c => .obj c
  | _, _, .ty t => .ty t
  | _, _, .xn hi e c d v => .xn (Nat.lt_of_lt_of_le hi hl) (k _ _ e (.inr (.inl ⟨_, _, rfl⟩))) c (by rw [ha _ hi]; exact d) v
  | _, _, .rng q => .rng (k _ _ q (.inr (.inl ⟨_, _, rfl⟩)))
  | _, _, .scr q => .scr (q.elim (fun ⟨o, e⟩ => .inl ⟨o, k _ _ e (.inr (.inl ⟨_, _, rfl⟩))⟩) .inr)
theorem RVs.ext' : ∀ {xs : List SV} {vs : List V}, RVs Z ρ n H xs vs → RVs Z ρ' m H' xs vs
  | _, _, .nil => .nil
  | _, _, .cons r t => .cons (RV.ext' r) (RVs.ext' t)
end
theorem RF.ext' : ∀ {xs : List (Str × SV)} {vs : List (Str × V)}, RF Z ρ n H xs vs → RF Z ρ' m H' xs vs
  | _, _, .nil => .nil
  | _, _, .cons r t => .cons (RV.ext' k hl ha r) (RF.ext' t)
theorem RK.ext' : ∀ {xs : List (Key × SV)} {vs : List (Key × V)}, RK Z ρ n H xs vs → RK Z ρ' m H' xs vs
  | _, _, .nil => .nil
  | _, _, .cons r t => .cons (RV.ext' k hl ha r) (RK.ext' t)
end
theorem RV.ext (R : RHp Z ρ h H) (E : Gro ρ h H ρ' h' H') {x : SV} {v : V} (r : RV Z ρ h.length H x v) : RV Z ρ' h'.length H' x v :=
  RV.ext' (fun a o e q => E.kept R e q) E.len E.agree r
theorem RVs.ext (R : RHp Z ρ h H) (E : Gro ρ h H ρ' h' H') {x : List SV} {v : List V} (r : RVs Z ρ h.length H x v) : RVs Z ρ' h'.length H' x v :=
  RVs.ext' (fun a o e q => E.kept R e q) E.len E.agree r
theorem REnv.ext (R : RHp Z ρ h H) (E : Gro ρ h H ρ' h' H') {σs : SEnv} {σ : St} (r : REnv Z ρ h.length H σs σ) : REnv Z ρ' h'.length H' σs σ :=
  ⟨r.len, fun j x e => let ⟨v, e1, r1⟩ := r.val j x e; ⟨v, e1, r1.ext R E⟩⟩

/-! refs below a bound -/
mutual
theorem RV.mx_le : ∀ {x : SV} {v : V}, RV Z ρ n H x v → x.mx ≤ n
  | _, _, .non => Nat.zero_le _
  | _, _, .bl b => Nat.zero_le _
  | _, _, .int i => Nat.zero_le _
  | _, _, .str x => Nat.zero_le _
  | _, _, .tup q r => by simpa [SV.mx] using RVs.mx_le r
  | _, _, .ref hi => hi
  | _, _, .obj c => Nat.zero_le _
  | _, _, .ty t => Nat.zero_le _
  | _, _, .scr q => Nat.zero_le _
  | _, _, .xn hi _ _ _ _ => hi
  | _, _, .rng _ => Nat.zero_le _
theorem RVs.mx_le : ∀ {xs : List SV} {vs : List V}, RVs Z ρ n H xs vs → SV.mxs xs ≤ n
  | _, _, .nil => Nat.zero_le _
  | _, _, .cons r t => by
    have a := RV.mx_le r
    have b := RVs.mx_le t
    simp only [SV.mxs]; omega
end
mutual
theorem RV.cut : ∀ {x : SV} {v : V}, RV Z ρ n H x v → x.mx ≤ m → RV Z ρ m H x v
  | _, _, .non, _ => .non
  | _, _, .bl b, _ => .bl b
  | _, _, .int i, _ => .int i
  | _, _, .str x, _ => .str x
  | _, _, .tup q r, e => .tup q (RVs.cut r (by simpa [SV.mx] using e))
  | _, _, .ref hi, e => .ref e
  | _, _, .obj c, _ => .obj c
  | _, _, .ty t, _ => .ty t
  | _, _, .scr q, _ => .scr q
  | _, _, .xn hi e c d v, q => .xn q e c d v
  | _, _, .rng e, _ => .rng e
theorem RVs.cut : ∀ {xs : List SV} {vs : List V}, RVs Z ρ n H xs vs → SV.mxs xs ≤ m → RVs Z ρ m H xs vs
  | _, _, .nil, _ => .nil
  | _, _, .cons r t, e => .cons (RV.cut r (by simp only [SV.mxs] at e; omega)) (RVs.cut t (by simp only [SV.mxs] at e; omega))
end
theorem RF.mx_le : ∀ {xs : List (Str × SV)} {vs : List (Str × V)}, RF Z ρ n H xs vs → fmx xs ≤ n
  | _, _, .nil => Nat.zero_le _
  | _, _, .cons r t => by
    have a := RV.mx_le r
    have b := RF.mx_le t
    simp only [fmx, List.map_cons, SV.mxs] at *; omega
theorem RF.cut : ∀ {xs : List (Str × SV)} {vs : List (Str × V)}, RF Z ρ n H xs vs → fmx xs ≤ m → RF Z ρ m H xs vs
  | _, _, .nil, _ => .nil
  | _, _, .cons r t, e => .cons (RV.cut r (by simp only [fmx, List.map_cons, SV.mxs] at e; omega)) (RF.cut t (by simp only [fmx, List.map_cons, SV.mxs] at e ⊢; omega))
theorem RK.mx_le : ∀ {xs : List (Key × SV)} {vs : List (Key × V)}, RK Z ρ n H xs vs → SV.mxs (xs.map (·.2)) ≤ n
  | _, _, .nil => Nat.zero_le _
  | _, _, .cons r t => by
    have a := RV.mx_le r
    have b := RK.mx_le t
    simp only [List.map_cons, SV.mxs] at *; omega
theorem RK.cut : ∀ {xs : List (Key × SV)} {vs : List (Key × V)}, RK Z ρ n H xs vs → SV.mxs (xs.map (·.2)) ≤ m → RK Z ρ m H xs vs
  | _, _, .nil, _ => .nil
  | _, _, .cons r t, e => .cons (RV.cut r (by simp only [List.map_cons, SV.mxs] at e; omega)) (RK.cut t (by simp only [List.map_cons, SV.mxs] at e ⊢; omega))
theorem RO.mx_le {a : Addr} : ∀ {o : SO}, RO Z ρ n H a o → o.mx ≤ n
  | .lst _, ⟨_, _, r⟩ => r.mx_le
  | .dct _, ⟨_, _, r⟩ => r.mx_le
  | .ins _ _, ⟨_, _, _, r⟩ => r.mx_le
  | .exc _ _, ⟨_, _, r⟩ => r.mx_le
  | .set _, _ => Nat.zero_le _
theorem RO.cut {a : Addr} : ∀ {o : SO}, RO Z ρ n H a o → o.mx ≤ m → RO Z ρ m H a o
  | .lst _, ⟨vs, e, r⟩, q => ⟨vs, e, r.cut q⟩
  | .dct _, ⟨vs, e, r⟩, q => ⟨vs, e, r.cut q⟩
  | .ins _ _, ⟨dx, vs, e, r⟩, q => ⟨dx, vs, e, r.cut q⟩
  | .exc _ _, ⟨vs, e, r⟩, q => ⟨vs, e, r.cut q⟩
  | .set _, q, _ => q
theorem RO.ext' (k : ∀ a o, H a = some o → ((∃ xs, o = .tup xs) ∨ (∃ b u, o = .frz b u) ∨ (∃ y, o = .own y)) → H' a = some o) (hl : n ≤ m) (ha : ∀ i, i < n → ρ' i = ρ i) {a : Addr} (hk : H' a = H a) : ∀ {o : SO}, RO Z ρ n H a o → RO Z ρ' m H' a o
  | .lst _, ⟨vs, e, r⟩ => ⟨vs, hk.trans e, r.ext' k hl ha⟩
  | .dct _, ⟨vs, e, r⟩ => ⟨vs, hk.trans e, r.ext' k hl ha⟩
  | .ins _ _, ⟨dx, vs, e, r⟩ => ⟨dx, vs, hk.trans e, r.ext' k hl ha⟩
  | .exc _ _, ⟨vs, e, r⟩ => ⟨vs, hk.trans e, r.ext' k hl ha⟩
  | .set _, ⟨d, e⟩ => ⟨d, hk.trans e⟩
end
end Pz

set_option Elab.async false
set_option linter.all false
set_option maxRecDepth 100000
namespace Pz
open PySem PySem.Spec L2

/-! ### changes of the heap -/
def putA (ρ : Nat → Addr) (n : Nat) (p : Addr) : Nat → Addr := fun i => if i = n then p else ρ i
theorem putA_same {ρ : Nat → Addr} {n : Nat} {p : Addr} : putA ρ n p n = p := if_pos rfl
theorem putA_lt {ρ : Nat → Addr} {n i : Nat} {p : Addr} (h : i < n) : putA ρ n p i = ρ i := if_neg (Nat.ne_of_lt h)
section
variable {Z : Cz} {ρ ρ' : Nat → Addr} {h h' : Hs} {H H' : Hp} {p : Addr} {u : HO} {o : SO}
theorem RHp.ne (R : RHp Z ρ h H) (hp : H p = none) {i : Nat} (hi : i < h.length) : ρ i ≠ p := fun z => (R.apart hi).2.2.1 (z ▸ hp)
theorem keep_lay (hp : H p = none) : ∀ a o, H a = some o → ((∃ xs, o = .tup xs) ∨ (∃ b u, o = .frz b u) ∨ (∃ y, o = .own y)) → upd H p u a = some o := fun a o e _ => by
  rw [upd_ne (ne_of_none e hp)]; exact e
theorem Gro.lay (hp : H p = none) : Gro ρ h H ρ h (upd H p u) :=
  ⟨Nat.le_refl _, fun _ _ => rfl, fun a o e _ => by rw [upd_ne (ne_of_none e hp)]; exact e, fun j h1 h2 => absurd h2 (Nat.not_lt.mpr h1)⟩
theorem RHp.lay (R : RHp Z ρ h H) (hp : H p = none) : RHp Z ρ h (upd H p u) :=
  ⟨fun i o e => (R.ob i o e).ext' (keep_lay hp) (Nat.le_refl _) (fun _ _ => rfl) (upd_ne (R.ne hp (List.getElem?_eq_some_iff.mp e).1)), R.inj⟩
theorem Gro.push (hp : H p = none) : Gro ρ h H (putA ρ h.length p) (h ++ [o]) (upd H p u) where
  len := by simp
  agree := fun i hi => putA_lt hi
  fr := fun a x e _ => by rw [upd_ne (ne_of_none e hp)]; exact e
  fresh := fun j h1 h2 => by
    have : j = h.length := by simp at h2; omega
    subst this; rw [putA_same]; exact hp
theorem RHp.push (R : RHp Z ρ h H) (hp : H p = none) (ro : RO Z (putA ρ h.length p) (h.length + 1) (upd H p u) p o) : RHp Z (putA ρ h.length p) (h ++ [o]) (upd H p u) where
  ob := fun i x e => by
    rw [List.length_append]
    by_cases hi : i < h.length
    · rw [List.getElem?_append_left hi] at e
      rw [putA_lt hi]
      exact (R.ob i x e).ext' (keep_lay hp) (by simp) (fun j hj => putA_lt hj) (upd_ne (R.ne hp hi))
    · have e2 : i = h.length := by
        have := (List.getElem?_eq_some_iff.mp e).1
        simp at this; omega
      subst e2
      simp at e; subst e
      rw [putA_same]; exact ro
  inj := fun i j hi hj e => by
    simp at hi hj
    by_cases h1 : i < h.length
    · by_cases h2 : j < h.length
      · rw [putA_lt h1, putA_lt h2] at e; exact R.inj i j h1 h2 e
      · have : j = h.length := by omega
        subst this
        rw [putA_lt h1, putA_same] at e
        exact absurd e (R.ne hp h1)
    · have : i = h.length := by omega
      subst this
      by_cases h2 : j < h.length
      · rw [putA_lt h2, putA_same] at e
        exact absurd e.symm (R.ne hp h2)
      · omega
theorem keep_wr (R : RHp Z ρ h H) {i : Nat} (hi : i < h.length) : ∀ a o, H a = some o → ((∃ xs, o = .tup xs) ∨ (∃ b u, o = .frz b u) ∨ (∃ y, o = .own y)) → upd H (ρ i) u a = some o := fun a o e k => by
  have q := R.apart hi
  have ne : a ≠ ρ i := fun z => by
    subst z
    rcases k with ⟨xs, rfl⟩ | ⟨b, u, rfl⟩ | ⟨y, rfl⟩
    · exact q.1 _ e
    · exact q.2.1 _ _ e
    · exact q.2.2.2 _ e
  rw [upd_ne ne]; exact e
theorem Gro.wr {i : Nat} (hi : i < h.length) : Gro ρ h H ρ (h.set i o) (upd H (ρ i) u) where
  len := by simp
  agree := fun _ _ => rfl
  fr := fun a x e hx => by rw [upd_ne fun z => hx i hi z.symm]; exact e
  fresh := fun j h1 h2 => by simp at h2; omega
theorem RHp.wr (R : RHp Z ρ h H) {i : Nat} (hi : i < h.length) (ro : RO Z ρ h.length (upd H (ρ i) u) (ρ i) o) : RHp Z ρ (h.set i o) (upd H (ρ i) u) where
  ob := fun j x e => by
    rw [List.length_set]
    by_cases hj : i = j
    · subst hj
      rw [List.getElem?_set_self hi] at e
      cases e; exact ro
    · rw [List.getElem?_set_ne hj] at e
      have hl := (List.getElem?_eq_some_iff.mp e).1
      exact (R.ob j x e).ext' (keep_wr R hi) (Nat.le_refl _) (fun _ _ => rfl) (upd_ne fun z => hj (R.inj j i hl hi z).symm)
  inj := fun a b ha hb => by rw [List.length_set] at ha hb; exact R.inj a b ha hb
theorem RHp.lst (R : RHp Z ρ h H) {i : Nat} {xs : List SV} (e : h[i]? = some (.lst xs)) : i < h.length ∧ ∃ vs, H (ρ i) = some (.lst vs) ∧ RVs Z ρ h.length H xs vs :=
  ⟨(List.getElem?_eq_some_iff.mp e).1, R.ob i _ e⟩
theorem RHp.ins (R : RHp Z ρ h H) {i c : Nat} {fs : List (Str × SV)} (e : h[i]? = some (.ins c fs)) : i < h.length ∧ ∃ dx vs, H (ρ i) = some (.ins (Z.G c) dx vs) ∧ RF Z ρ h.length H fs vs :=
  ⟨(List.getElem?_eq_some_iff.mp e).1, R.ob i _ e⟩
theorem RHp.dct (R : RHp Z ρ h H) {i : Nat} {kvs : List (Key × SV)} (e : h[i]? = some (.dct kvs)) : i < h.length ∧ ∃ vs, H (ρ i) = some (.dK vs) ∧ RK Z ρ h.length H kvs vs :=
  ⟨(List.getElem?_eq_some_iff.mp e).1, R.ob i _ e⟩
/-- the heap cut behind its first n objects -/
theorem RHp.cut (R : RHp Z ρ h H) {n : Nat} (hn : n ≤ h.length) (k : ∀ o ∈ h.take n, o.mx ≤ n) : RHp Z ρ (h.take n) H where
  ob := fun i o e => by
    have hi := (List.getElem?_eq_some_iff.mp e).1
    rw [List.length_take, Nat.min_eq_left hn] at hi ⊢
    have e' : h[i]? = some o := by rw [List.getElem?_take_of_lt hi] at e; exact e
    exact (R.ob i o e').cut (k o (List.mem_of_getElem? e))
  inj := fun a b ha hb => by
    rw [List.length_take, Nat.min_eq_left hn] at ha hb
    exact R.inj a b (Nat.lt_of_lt_of_le ha hn) (Nat.lt_of_lt_of_le hb hn)
theorem Gro.cut {ρ0 : Nat → Addr} {h0 : Hs} {H0 : Hp} (E : Gro ρ0 h0 H0 ρ h H) : Gro ρ0 h0 H0 ρ (h.take h0.length) H where
  len := by rw [List.length_take]; have := E.len; omega
  agree := E.agree
  fr := E.fr
  fresh := fun j h1 h2 => by rw [List.length_take] at h2; omega
end

/-! ### the context, what is wanted -/
structure XOs (X : Cx) (W : WX) : Prop where
  nd : X.N.Nodup
  tk : Takes X W
  po : PassesOwn (model X.prog X.w) X.A X.env X.xe
  gd : X.A.guards = some []
  hu : X.A.units + 200 < cLine
/-- .. where no exception is handled -/
structure XOk (X : Cx) (W : WX) : Prop extends XOs X W where
  calm : X.calm = true
/-- the dict of an exception that is new -/
structure XdA (H : Hp) (ρ' : Nat → Addr) (h' : Hs) (H' : Hp) (d : Addr) (xs : List (Str × V)) : Prop where
  at' : H' d = some (.xd xs)
  new : H d = none
  off : ∀ i, i < h'.length → ρ' i ≠ d
abbrev zOf (X : Cx) (G : Nat → Addr) : Cz := ⟨X.prog, X.w, X.K, G⟩
section
variable (Z : Cz) (W : WX) (ρ : Nat → Addr) (h : Hs) (H : Hp) (σ : St)
def PExc (c : Nat) (fs : List (Str × SV)) (h' : Hs) (σ' : St) : Prop :=
  ∀ ρ' H' d xs, Gro ρ h H ρ' h' H' → RHp Z ρ' h' H' → XdA H ρ' h' H' d xs → RF Z ρ' h'.length H' fs xs → W (.ref (Z.G c)) (some d) σ' H'
def PostG {α β : Type} (rel : (Nat → Addr) → Nat → Hp → α → β → Prop) (r : Out α) (Q : β → Hp → Prop) : Prop := match r with
  | .ok v h' => ∀ ρ' H' x, Gro ρ h H ρ' h' H' → RHp Z ρ' h' H' → rel ρ' h'.length H' v x → Q x H'
  | .exc c fs h' => PExc Z W ρ h H c fs h' σ
  | .stuck => False
abbrev PostE (r : Out SV) (Q : VK) : Prop := PostG Z W ρ h H σ (fun ρ n H => RV Z ρ n H) r Q
abbrev PostL (r : Out (List SV)) (Q : List V → Hp → Prop) : Prop := PostG Z W ρ h H σ (fun ρ n H => RVs Z ρ n H) r Q
abbrev PostB (r : Out Bool) (Q : Bool → Hp → Prop) : Prop := PostG Z W ρ h H σ (fun _ _ _ (a b : Bool) => a = b) r Q
end
section
variable {Z : Cz} {W : WX} {ρ ρ' : Nat → Addr} {h h' : Hs} {H H' : Hp} {σ : St}
theorem Gro.none (R : RHp Z ρ' h' H') (E : Gro ρ h H ρ' h' H') {d : Addr} (e : H' d = none) : H d = none := by
  cases eo : H d with
  | none => rfl
  | some o =>
    exfalso
    by_cases hx : ∃ i, i < h.length ∧ ρ i = d
    · obtain ⟨i, hi, z⟩ := hx
      have w := (R.apart (Nat.lt_of_lt_of_le hi E.len)).2.2.1
      rw [E.agree i hi, z] at w
      exact w e
    · have w := E.fr _ _ eo fun i hi z => hx ⟨i, hi, z⟩
      rw [e] at w; cases w
theorem PExc.step {c : Nat} {fs : List (Str × SV)} {h2 : Hs} {σ' : St} (R : RHp Z ρ' h' H') (E : Gro ρ h H ρ' h' H') (p : PExc Z W ρ h H c fs h2 σ') : PExc Z W ρ' h' H' c fs h2 σ' :=
  fun ρ2 H2 d xs E2 R2 e r => p ρ2 H2 d xs (E.trans R E2) R2 ⟨e.at', E.none R e.new, e.off⟩ r
/-- from a later state -/
theorem PostG.step {α β : Type} {rel : (Nat → Addr) → Nat → Hp → α → β → Prop} {r : Out α} {Q : β → Hp → Prop} (R : RHp Z ρ' h' H') (E : Gro ρ h H ρ' h' H') (p : PostG Z W ρ h H σ rel r Q) : PostG Z W ρ' h' H' σ rel r Q := by
  cases r with
  | ok v h2 => exact fun ρ2 H2 x E2 R2 r2 => p ρ2 H2 x (E.trans R E2) R2 r2
  | exc c fs h2 => exact PExc.step R E p
  | stuck => exact p
/-- the first of two -/
theorem PostG.fst {α β γ δ : Type} {rel : (Nat → Addr) → Nat → Hp → α → β → Prop} {rel2 : (Nat → Addr) → Nat → Hp → γ → δ → Prop} {r : Out α} {f : α → Hs → Out γ} {Q : δ → Hp → Prop} {Q1 : β → Hp → Prop} (p : PostG Z W ρ h H σ rel2 (r.bnd f) Q)
    (k : ∀ v h1 ρ1 H1 x, r = .ok v h1 → Gro ρ h H ρ1 h1 H1 → RHp Z ρ1 h1 H1 → rel ρ1 h1.length H1 v x → PostG Z W ρ1 h1 H1 σ rel2 (f v h1) Q → Q1 x H1) : PostG Z W ρ h H σ rel r Q1 := by
  cases r with
  | ok v h1 => exact fun ρ1 H1 x E R q => k v h1 ρ1 H1 x rfl E R q (PostG.step R E p)
  | exc c fs h1 => exact p
  | stuck => exact p
/-- done -/
theorem PostG.ret {α β : Type} {rel : (Nat → Addr) → Nat → Hp → α → β → Prop} {v : α} {x : β} {Q : β → Hp → Prop} (R : RHp Z ρ h H) (q : rel ρ h.length H v x) (p : PostG Z W ρ h H σ rel (.ok v h) Q) : Q x H := p ρ H x Gro.refl R q
theorem PostG.at {α β : Type} {rel : (Nat → Addr) → Nat → Hp → α → β → Prop} {v : α} {x : β} {Q : β → Hp → Prop} (E : Gro ρ h H ρ' h' H') (R : RHp Z ρ' h' H') (q : rel ρ' h'.length H' v x) (p : PostG Z W ρ h H σ rel (.ok v h') Q) : Q x H' := p ρ' H' x E R q
end

section
variable (X : Cx)
def tAny (e : Expr) : TE := fun σ H Q => ∀ (pins : List (Addr × Obj)) (s : Shared), Inv X pins σ H s → wpAny (model X.prog X.w) X.A (eval e X.env) (EP X pins σ Q) X.xe s
def tAnyT (e : Expr) : TT := fun σ H Q => ∀ (pins : List (Addr × Obj)) (s : Shared), Inv X pins σ H s → wpAny (model X.prog X.w) X.A (isTrue e X.env (eval e X.env)) (TP X pins σ Q) X.xe s
def tAnyW (e : Expr) : TT := fun σ H Q => ∀ (whole : Sem Value) (pins : List (Addr × Obj)) (s : Shared), Inv X pins σ H s → wpAny (model X.prog X.w) X.A (isTrue e X.env whole) (TP X pins σ Q) X.xe s
def tAnyA (es : List Expr) : TA := fun σ H Q => ∀ (pos : Pos) (pins : List (Addr × Obj)) (s : Shared), Inv X pins σ H s → wpAny (model X.prog X.w) X.A (spliced (backTo pos (starEach es X.env))) (AP X pins σ Q) X.xe s
def tAnyS (st : Stmt) : TS := fun D σ H => ∀ (pins : List (Addr × Obj)) (s : Shared), Inv X pins σ H s → wpAny (model X.prog X.w) X.A (exec st X.env) (SP X pins D) X.xe s
def tAnySs (st : List Stmt) : TS := fun D σ H => ∀ (pins : List (Addr × Obj)) (s : Shared), Inv X pins σ H s → wpAny (model X.prog X.w) X.A (execs st X.env) (SP X pins D) X.xe s
variable {X}
theorem pe_any {e : Expr} : PE X e (tAny X e) := ⟨fun pins s σ H Q I h => h pins s I⟩
theorem pt_any {e : Expr} : PT X e (tAnyT X e) := ⟨fun pins s σ H Q I h => h pins s I⟩
theorem pw_any {e : Expr} : PW X e (tAnyW X e) := ⟨fun wh pins s σ H Q I h => h wh pins s I⟩
theorem pa_any {es : List Expr} : PA X es (tAnyA X es) := ⟨fun pos pins s σ H Q I h => h pos pins s I⟩
theorem ps_any {st : Stmt} : PS X st (tAnyS X st) := ⟨fun pins s σ H D I h => h pins s I⟩
theorem pss_any {st : List Stmt} : PSs X st (tAnySs X st) := ⟨fun pins s σ H D I h => h pins s I⟩
theorem any_pe {e : Expr} {t : TE} (h : PE X e t) {σ : St} {H : Hp} {Q : VK} (q : t σ H Q) : tAny X e σ H Q := fun pins s I => h.run pins s σ H Q I q
theorem any_pt {e : Expr} {t : TT} (h : PT X e t) {σ : St} {H : Hp} {Q : Bool → Hp → Prop} (q : t σ H Q) : tAnyT X e σ H Q := fun pins s I => h.run pins s σ H Q I q
theorem any_pw {e : Expr} {t : TT} (h : PW X e t) {σ : St} {H : Hp} {Q : Bool → Hp → Prop} (q : t σ H Q) : tAnyW X e σ H Q := fun wh pins s I => h.run wh pins s σ H Q I q
theorem any_pa {es : List Expr} {t : TA} (h : PA X es t) {σ : St} {H : Hp} {Q : List V → Hp → Prop} (q : t σ H Q) : tAnyA X es σ H Q := fun pos pins s I => h.run pos pins s σ H Q I q
theorem any_ps {st : Stmt} {t : TS} (h : PS X st t) {D : Ends} {σ : St} {H : Hp} (q : t D σ H) : tAnyS X st D σ H := fun pins s I => h.run pins s σ H D I q
theorem any_pss {st : List Stmt} {t : TS} (h : PSs X st t) {D : Ends} {σ : St} {H : Hp} (q : t D σ H) : tAnySs X st D σ H := fun pins s I => h.run pins s σ H D I q
end

section
variable (X : Cx) (G : Nat → Addr) (W : WX)
/-- e computes r -/
structure SE (e : Expr) (r : EF) : Prop where of ::
  run : ∀ ρ σs h σ H Q, REnv (zOf X G) ρ h.length H σs σ → RHp (zOf X G) ρ h H → PostE (zOf X G) W ρ h H σ (r σs h) Q → tAny X e σ H Q
instance (e : Expr) (r : EF) : CoeFun (SE X G W e r) fun _ => ∀ ρ σs h σ H Q, REnv (zOf X G) ρ h.length H σs σ → RHp (zOf X G) ρ h H → PostE (zOf X G) W ρ h H σ (r σs h) Q → tAny X e σ H Q := ⟨SE.run⟩
structure ST (e : Expr) (r : SEnv → Hs → Out Bool) : Prop where of ::
  run : ∀ ρ σs h σ H Q, REnv (zOf X G) ρ h.length H σs σ → RHp (zOf X G) ρ h H → PostB (zOf X G) W ρ h H σ (r σs h) Q → tAnyT X e σ H Q
instance (e : Expr) (r : SEnv → Hs → Out Bool) : CoeFun (ST X G W e r) fun _ => ∀ ρ σs h σ H Q, REnv (zOf X G) ρ h.length H σs σ → RHp (zOf X G) ρ h H → PostB (zOf X G) W ρ h H σ (r σs h) Q → tAnyT X e σ H Q := ⟨ST.run⟩
structure SW (e : Expr) (r : SEnv → Hs → Out Bool) : Prop where of ::
  run : ∀ ρ σs h σ H Q, REnv (zOf X G) ρ h.length H σs σ → RHp (zOf X G) ρ h H → PostB (zOf X G) W ρ h H σ (r σs h) Q → tAnyW X e σ H Q
instance (e : Expr) (r : SEnv → Hs → Out Bool) : CoeFun (SW X G W e r) fun _ => ∀ ρ σs h σ H Q, REnv (zOf X G) ρ h.length H σs σ → RHp (zOf X G) ρ h H → PostB (zOf X G) W ρ h H σ (r σs h) Q → tAnyW X e σ H Q := ⟨SW.run⟩
structure SA (es : List Expr) (r : LF) : Prop where of ::
  run : ∀ ρ σs h σ H Q, REnv (zOf X G) ρ h.length H σs σ → RHp (zOf X G) ρ h H → PostL (zOf X G) W ρ h H σ (r σs h) Q → tAnyA X es σ H Q
instance (es : List Expr) (r : LF) : CoeFun (SA X G W es r) fun _ => ∀ ρ σs h σ H Q, REnv (zOf X G) ρ h.length H σs σ → RHp (zOf X G) ρ h H → PostL (zOf X G) W ρ h H σ (r σs h) Q → tAnyA X es σ H Q := ⟨SA.run⟩
end

/-! ### names, constants -/
def rVar (i : Nat) : EF := fun σ h => match σ[i]? with
  | some (some v) => .ok v h
  | _ => .stuck
def rC (v : SV) : EF := fun _ h => .ok v h
section
variable {X : Cx} {G : Nat → Addr} {W : WX} {pos : Pos}
theorem se_pe {e : Expr} {t : TE} {r : EF} (p : PE X e t) (k : ∀ ρ σs h σ H Q, REnv (zOf X G) ρ h.length H σs σ → RHp (zOf X G) ρ h H → PostE (zOf X G) W ρ h H σ (r σs h) Q → t σ H Q) : SE X G W e r :=
  .of fun ρ σs h σ H Q hE hR hP => any_pe p (k ρ σs h σ H Q hE hR hP)
theorem se_var (i : Nat) {x : Str} (hN : X.N[i]? = some x := by rfl) (hv : Vis X.env.scope x := by first | exact Or.inl rfl | exact Or.inr (Or.inl rfl) | exact Or.inr (Or.inr rfl)) (hd : (x == ("__debug__" : Str)) = false := by decide)
    (hcd : (x == ("__classdict__" : Str)) = false := by decide) : SE X G W (.Name x pos) (rVar i) := se_pe (pe_var hN hv hd hcd) fun ρ σs h σ H Q hE hR hP => by
  unfold rVar at hP
  split at hP
  · rename_i v e
    obtain ⟨x, e1, r1⟩ := hE.val i v e
    exact ⟨x, e1, PostG.ret hR r1 hP⟩
  · exact hP.elim
theorem se_int {i : Int} {j} : SE X G W (.Constant (.int i) j pos) (rC (.int i)) := se_pe pe_int fun _ _ _ _ _ _ _ hR hP => PostG.ret hR (.int i) hP
theorem se_bl {b : Bool} {j} : SE X G W (.Constant (.bool b) j pos) (rC (.bl b)) := se_pe pe_bl fun _ _ _ _ _ _ _ hR hP => PostG.ret hR (.bl b) hP
theorem se_non {j} : SE X G W (.Constant .none j pos) (rC .non) := se_pe pe_non fun _ _ _ _ _ _ _ hR hP => PostG.ret hR .non hP
theorem se_str {x : Str} {j} : SE X G W (.Constant (.str x) j pos) (rC (.str x)) := se_pe pe_str fun _ _ _ _ _ _ _ hR hP => PostG.ret hR (.str x) hP
/-- a module's name: what it holds -/
def GV (X : Cx) (G : Nat → Addr) (x : Str) (v : SV) : Prop := ∃ u y, X.mg x = some u ∧ RelV y u ∧ ∀ ρ n H, RV (zOf X G) ρ n H v y
theorem se_glob {x : Str} {v : SV} (g : GV X G x v) (hg : Gl X x := by rfl) (hd : (x == ("__debug__" : Str)) = false := by decide) : SE X G W (.Name x pos) (rC v) := by
  obtain ⟨u, y, hm, ry, rv⟩ := g
  exact se_pe (pe_glob hg hm ry hd) fun ρ _ h _ H _ _ hR hP => PostG.ret hR (rv ρ _ H) hP
/-- a built-in's name as a value -/
theorem se_bltn {x : Str} {n : String} (hm : X.mg x = none) (hv : bootBuiltins x = some (.type n)) (hg : Gl X x := by rfl) (hn : x ≠ "__name__" := by decide) (hd : (x == ("__debug__" : Str)) = false := by decide) : SE X G W (.Name x pos) (rC (.ty n)) :=
  se_pe (pe_bltn (v := .ty n) hg hm hv rfl hn hd) fun ρ _ h _ H _ _ hR hP => PostG.ret hR (.ty n) hP

/-! ### two in a row -/
def rB (f : SV → SV → Hs → Out SV) (ra rb : EF) : EF := fun σ h => (ra σ h).bnd fun a h => (rb σ h).bnd fun b h => f a b h
theorem seq2 {a b : Expr} {ra rb : EF} {f : SV → SV → Hs → Out SV} (sa : SE X G W a ra) (sb : SE X G W b rb) {ρ : Nat → Addr} {σs : SEnv} {h : Hs} {σ : St} {H : Hp} {Q : VK} {R : V → V → Hp → Prop}
    (hE : REnv (zOf X G) ρ h.length H σs σ) (hR : RHp (zOf X G) ρ h H) (hP : PostE (zOf X G) W ρ h H σ (rB f ra rb σs h) Q)
    (k : ∀ u v h2 ρ2 H2 x y, RHp (zOf X G) ρ2 h2 H2 → RV (zOf X G) ρ2 h2.length H2 u x → RV (zOf X G) ρ2 h2.length H2 v y → PostE (zOf X G) W ρ2 h2 H2 σ (f u v h2) Q → R x y H2) :
    tAny X a σ H fun x H1 => tAny X b σ H1 fun y H2 => R x y H2 := by
  refine sa ρ σs h σ H _ hE hR (hP.fst fun u h1 ρ1 H1 x _ E1 R1 v1 p1 => ?_)
  refine sb ρ1 σs h1 σ H1 _ (hE.ext hR E1) R1 (p1.fst fun v h2 ρ2 H2 y _ E2 R2 v2 p2 => ?_)
  exact k u v h2 ρ2 H2 x y R2 (v1.ext R1 E2) v2 p2

/-- a binary operator by values -/
structure OpS (X : Cx) (G : Nat → Addr) (W : WX) (F : Value → Value → Sem Value) (f : SV → SV → Hs → Out SV) : Prop where of ::
  run : ∀ ρ h H σ u v x y Q, RHp (zOf X G) ρ h H → RV (zOf X G) ρ h.length H u x → RV (zOf X G) ρ h.length H v y → PostE (zOf X G) W ρ h H σ (f u v h) Q → ∀ (pins : List (Addr × Obj)) (s : Shared) (σ' : L2.St) (a b : Value), Inv X pins σ' H s → RelV x a → RelV y b → wpAny (model X.prog X.w) X.A (F a b) (EP X pins σ' Q) X.xe s
instance (X : Cx) (G : Nat → Addr) (W : WX) (F : Value → Value → Sem Value) (f : SV → SV → Hs → Out SV) : CoeFun (OpS X G W F f) fun _ => ∀ ρ h H σ u v x y Q, RHp (zOf X G) ρ h H → RV (zOf X G) ρ h.length H u x → RV (zOf X G) ρ h.length H v y → PostE (zOf X G) W ρ h H σ (f u v h) Q → ∀ (pins : List (Addr × Obj)) (s : Shared) (σ' : L2.St) (a b : Value), Inv X pins σ' H s → RelV x a → RelV y b → wpAny (model X.prog X.w) X.A (F a b) (EP X pins σ' Q) X.xe s := ⟨OpS.run⟩
theorem se_bin {a b : Expr} {op : Operator} {ra rb : EF} {f : SV → SV → Hs → Out SV} (ho : OpS X G W (binaryOp op) f) (sa : SE X G W a ra) (sb : SE X G W b rb) : SE X G W (.BinOp a op b pos) (rB f ra rb) :=
  .of fun ρ σs h σ H Q hE hR hP pins s I => wpAny_BinOp (binT (R := fun x y H2 => ∀ (pins : List (Addr × Obj)) (s : Shared) (a b : Value), Inv X pins σ H2 s → RelV x a → RelV y b → wpAny (model X.prog X.w) X.A (binaryOp op a b) (EP X pins σ Q) X.xe s) pe_any pe_any I
    (seq2 sa sb hE hR hP fun u v h2 ρ2 H2 x y R2 r1 r2 p pins s a b I => ho ρ2 h2 H2 σ u v x y Q R2 r1 r2 p pins s σ a b I) fun v u s2 x y H2 I2 rx ry q => q pins s2 v u I2 rx ry)
end
end Pz

set_option Elab.async false
set_option linter.all false
set_option maxRecDepth 100000
set_option maxHeartbeats 1000000
namespace Pz
open PySem PySem.Spec L2

theorem lim_eq : (sizeLine : Nat) = 16777216 := by rw [sizeLine_eq]
section
variable {Z : Cz} {W : WX} {ρ : Nat → Addr} {h : Hs} {H : Hp} {σ : L2.St} {p : Addr} {Q : VK}
theorem new_lst {xs : List SV} {vs : List V} (R : RHp Z ρ h H) (hp : H p = none) (r : RVs Z ρ h.length H xs vs) (hP : PostE Z W ρ h H σ (.ok (.ref h.length) (h ++ [.lst xs])) Q) : Q (.ref p) (upd H p (.lst vs)) := by
  have r' : RVs Z (putA ρ h.length p) (h.length + 1) (upd H p (.lst vs)) xs vs := r.ext' (keep_lay hp) (Nat.le_succ _) fun i hi => putA_lt hi
  refine PostG.at (Gro.push hp) (R.push (o := .lst xs) hp ⟨vs, upd_same, r'⟩) ?_ hP
  have e : RV Z (putA ρ h.length p) (h ++ [SO.lst xs]).length (upd H p (.lst vs)) (.ref h.length) (.ref (putA ρ h.length p h.length)) := .ref (by simp)
  rw [putA_same] at e; exact e
theorem new_tup {xs : List SV} {vs : List V} (R : RHp Z ρ h H) (hp : H p = none) (r : RVs Z ρ h.length H xs vs) (hP : PostE Z W ρ h H σ (.ok (.tup xs) h) Q) : Q (.ref p) (upd H p (.tup vs)) :=
  PostG.at (Gro.lay hp) (R.lay hp) (.tup (SqT.of upd_same) (r.ext' (keep_lay hp) (Nat.le_refl _) fun _ _ => rfl)) hP
theorem new_dct {xs : List (Key × SV)} {vs : List (Key × V)} (R : RHp Z ρ h H) (hp : H p = none) (r : RK Z ρ h.length H xs vs) (hP : PostE Z W ρ h H σ (.ok (.ref h.length) (h ++ [.dct xs])) Q) : Q (.ref p) (upd H p (.dK vs)) := by
  have r' : RK Z (putA ρ h.length p) (h.length + 1) (upd H p (.dK vs)) xs vs := r.ext' (keep_lay hp) (Nat.le_succ _) fun i hi => putA_lt hi
  refine PostG.at (Gro.push hp) (R.push (o := .dct xs) hp ⟨vs, upd_same, r'⟩) ?_ hP
  have e : RV Z (putA ρ h.length p) (h ++ [SO.dct xs]).length (upd H p (.dK vs)) (.ref h.length) (.ref (putA ρ h.length p h.length)) := .ref (by simp)
  rw [putA_same] at e; exact e
end

/-! ### binary operators -/
def oAdd : SV → SV → Hs → Out SV
  | .int i, .int j, h => .ok (.int (i + j)) h
  | .str x, .str y, h => if x.length + y.length ≤ 16777216 then .ok (.str (x ++ y)) h else .stuck
  | .tup xs, .tup ys, h => if xs.length + ys.length ≤ 16777216 then .ok (.tup (xs ++ ys)) h else .stuck
  | .ref a, .ref b, h => match h[a]?, h[b]? with
    | some (.lst xs), some (.lst ys) => if xs.length + ys.length ≤ 16777216 then .ok (.ref h.length) (h ++ [.lst (xs ++ ys)]) else .stuck
    | _, _ => .stuck
  | _, _, _ => .stuck
def oSub : SV → SV → Hs → Out SV
  | .int i, .int j, h => .ok (.int (i - j)) h
  | _, _, _ => .stuck
def strRep (x : Str) (n : Nat) : Str := ⟨(List.replicate n x.cps).foldl (· ++ ·) #[]⟩
def smallI (i : Int) : Bool := decide (-(2 ^ 64) < i ∧ i < 2 ^ 64)
def oMul : SV → SV → Hs → Out SV
  | .int i, .int j, h => if (smallI i || smallI j) = true then .ok (.int (i * j)) h else .stuck
  | .str x, .int n, h => if 0 ≤ n ∧ n ≤ 1000 ∧ x.length ≤ 1000 then .ok (.str (strRep x n.toNat)) h else .stuck
  | .ref a, .int n, h => match h[a]? with
    | some (.lst xs) => if 0 ≤ n ∧ n ≤ 1000 ∧ xs.length ≤ 1000 then .ok (.ref h.length) (h ++ [.lst (List.replicate n.toNat xs).flatten]) else .stuck
    | _ => .stuck
  | _, _, _ => .stuck
def oDiv : SV → SV → Hs → Out SV
  | .int i, .int j, h => if 0 < j ∧ j < 1073741824 then .ok (.int (i / j)) h else .stuck
  | _, _, _ => .stuck
def oMod : SV → SV → Hs → Out SV
  | .int i, .int j, h => if 0 < j then .ok (.int (i % j)) h else .stuck
  | _, _, _ => .stuck
def oPow : SV → SV → Hs → Out SV
  | .int i, .int j, h => if 0 ≤ j ∧ j ≤ 1000000 ∧ i.natAbs < 2 ^ 64 then .ok (.int (i ^ j.toNat)) h else .stuck
  | _, _, _ => .stuck
section
variable {X : Cx} {G : Nat → Addr} {W : WX}
theorem ops_of {F : Value → Value → Sem Value} {f : SV → SV → Hs → Out SV} {r : R2} (ho : OpR X F r)
    (k : ∀ ρ h H σ u v x y Q, RHp (zOf X G) ρ h H → RV (zOf X G) ρ h.length H u x → RV (zOf X G) ρ h.length H v y → PostE (zOf X G) W ρ h H σ (f u v h) Q → r x y H Q) : OpS X G W F f :=
  .of fun ρ h H σ u v x y Q hR r1 r2 hP pins s σ' a b I rx ry => ho pins s σ' H x y a b Q I rx ry (k ρ h H σ u v x y Q hR r1 r2 hP)
theorem os_add : OpS X G W (binaryOp .Add) oAdd := by
  refine ops_of (op_add.or (op_add_str.or (op_catA.or op_cat))) fun ρ h H σ u v x y Q hR r1 r2 hP => ?_
  unfold oAdd at hP
  split at hP
  · cases r1; cases r2
    exact .inl ⟨_, _, rfl, rfl, PostG.ret hR (.int _) hP⟩
  · cases r1; cases r2
    split at hP
    · rename_i hz
      exact .inr (.inl ⟨_, _, rfl, rfl, by rw [lim_eq]; exact hz, PostG.ret hR (.str _) hP⟩)
    · exact hP.elim
  · cases r1 with | tup q1 t1 => ?_
    cases r2 with | tup q2 t2 => ?_
    split at hP
    · rename_i hz
      refine .inr (.inr (.inl ⟨_, _, _, _, rfl, rfl, q1, q2, by rw [← t1.length, ← t2.length, lim_eq]; exact hz, ?_⟩))
      refine ⟨fun e => ?_, fun _ e => ?_, fun _ _ p hp => new_tup hR hp (t1.app t2) hP⟩
      · subst e
        cases t1
        exact PostG.ret hR (.tup q2 t2) hP
      · subst e
        cases t2
        rw [List.append_nil] at hP
        exact PostG.ret hR (.tup q1 t1) hP
    · exact hP.elim
  · split at hP
    · rename_i e1 e2
      cases r1 with | ref h1 => ?_
      cases r2 with | ref h2 => ?_
      obtain ⟨_, vs, f1, t1⟩ := hR.lst e1
      obtain ⟨_, ws, f2, t2⟩ := hR.lst e2
      split at hP
      · rename_i hz
        exact .inr (.inr (.inr ⟨_, _, _, _, rfl, rfl, f1, f2, by rw [← t1.length, ← t2.length, lim_eq]; exact hz, fun p hp => new_lst hR hp (t1.app t2) hP⟩))
      · exact hP.elim
    · exact hP.elim
  · exact hP.elim
theorem os_sub : OpS X G W (binaryOp .Sub) oSub := by
  refine ops_of op_sub fun ρ h H σ u v x y Q hR r1 r2 hP => ?_
  unfold oSub at hP
  split at hP
  · cases r1; cases r2
    exact ⟨_, _, rfl, rfl, PostG.ret hR (.int _) hP⟩
  · exact hP.elim
theorem os_div : OpS X G W (binaryOp .FloorDiv) oDiv := by
  refine ops_of op_fdiv fun ρ h H σ u v x y Q hR r1 r2 hP => ?_
  unfold oDiv at hP
  split at hP
  · cases r1; cases r2
    split at hP
    · rename_i hz; exact ⟨_, _, rfl, rfl, hz, PostG.ret hR (.int _) hP⟩
    · exact hP.elim
  · exact hP.elim
theorem os_mod : OpS X G W (binaryOp .Mod) oMod := by
  refine ops_of op_mod fun ρ h H σ u v x y Q hR r1 r2 hP => ?_
  unfold oMod at hP
  split at hP
  · cases r1; cases r2
    split at hP
    · rename_i hz; exact ⟨_, _, rfl, rfl, hz, PostG.ret hR (.int _) hP⟩
    · exact hP.elim
  · exact hP.elim
theorem os_pow : OpS X G W (binaryOp .Pow) oPow := by
  refine ops_of op_pow fun ρ h H σ u v x y Q hR r1 r2 hP => ?_
  unfold oPow at hP
  split at hP
  · cases r1; cases r2
    split at hP
    · rename_i hz; exact ⟨_, _, rfl, rfl, hz, PostG.ret hR (.int _) hP⟩
    · exact hP.elim
  · exact hP.elim
theorem fold_empty : ∀ (n : Nat), (List.replicate n (#[] : Array Nat)).foldl (· ++ ·) #[] = #[]
  | 0 => rfl
  | n + 1 => by rw [List.replicate_succ, List.foldl_cons]; simpa using fold_empty n
theorem fold_size (a : Array Nat) : ∀ (n : Nat) (acc : Array Nat), ((List.replicate n a).foldl (· ++ ·) acc).size = acc.size + n * a.size
  | 0, acc => by simp
  | n + 1, acc => by rw [List.replicate_succ, List.foldl_cons, fold_size a n, Array.size_append, Nat.succ_mul]; omega
theorem op_mul_str : OpR X (binaryOp .Mult) (fun x y H Q => ∃ z n, x = .str z ∧ y = .int n ∧ 0 ≤ n ∧ n ≤ 1000 ∧ z.length ≤ 1000 ∧ Q (.str (strRep z n.toNat)) H) := by
  intro pins s σ H x y v u Q I rx ry q
  obtain ⟨z, n, rfl, rfl, h0, h1, hz, q⟩ := q
  obtain ⟨t, rfl⟩ := rx
  obtain ⟨t', rfl⟩ := ry
  have big : z.length * n.toNat ≤ 1000000 := by
    have : n.toNat ≤ 1000 := by omega
    calc z.length * n.toNat ≤ 1000 * 1000 := Nat.mul_le_mul hz this
      _ = 1000000 := by decide
  refine PySem.P.mul_str (by
      rw [decide_eq_false (by omega), decide_eq_false (by omega)]; rfl) (fun h2 _ => ?_) (fun _ _ => ?_) ?_
  · intro hgt
    have h3 : (2 ^ 63 - 1) / n ≥ (2 ^ 63 - 1) / 1000 := by
      have h4 : (0 : Int) < n := by omega
      rw [ge_iff_le, Int.le_ediv_iff_mul_le h4]
      have h5 : (2 ^ 63 - 1 : Int) / 1000 * n ≤ (2 ^ 63 - 1 : Int) / 1000 * 1000 := Int.mul_le_mul_of_nonneg_left h1 (by decide)
      exact Int.le_trans h5 (by decide)
    have h6 : ((2 ^ 63 - 1 : Int) / 1000) ≥ 1000 := by decide
    omega
  · unfold Builtin.Str.tooLong
    simp only [decide_eq_false_iff_not, Nat.not_lt, sizeLine_eq]
    omega
  · by_cases c1 : n < 1
    · rw [if_pos c1]
      have e : n.toNat = 0 := by omega
      rw [e] at q
      exact ⟨by decide, ⟨.str Str.empty, _, I.tok _, ⟨_, rfl⟩, q⟩⟩
    · rw [if_neg c1]
      by_cases c2 : (n == 1 || z.length == 0) = true
      · rw [if_pos c2]
        have e : strRep z n.toNat = z := by
          unfold strRep
          rcases Bool.or_eq_true_iff.mp c2 with c | c
          · have : n = 1 := by simpa using c
            subst this
            show (⟨#[] ++ z.cps⟩ : Str) = z
            simp
          · have hc : z.cps = #[] := by
              have : z.cps.size = 0 := by
                have q : z.length = 0 := by simpa using c
                exact q
              exact Array.eq_empty_of_size_eq_zero this
            rw [hc, fold_empty]
            cases z; simp_all
        rw [e] at q
        exact ⟨.str z, _, I, ⟨_, rfl⟩, q⟩
      · rw [if_neg c2]
        refine ⟨?_, ⟨.str (strRep z n.toNat), _, I.tok _, ⟨_, rfl⟩, q⟩⟩
        show ((List.replicate n.toNat z.cps).foldl (· ++ ·) #[]).size ≤ sizeLine
        rw [fold_size, lim_eq]
        have : z.cps.size = z.length := rfl
        rw [this, Nat.mul_comm]
        simp; omega
theorem rep_vs {Z : Cz} {ρ : Nat → Addr} {n : Nat} {H : Hp} {xs : List SV} {vs : List V} (t : RVs Z ρ n H xs vs) : ∀ k : Nat, RVs Z ρ n H (List.replicate k xs).flatten (List.replicate k vs).flatten
  | 0 => .nil
  | k + 1 => by rw [List.replicate_succ, List.replicate_succ, List.flatten_cons, List.flatten_cons]; exact t.app (rep_vs t k)
theorem os_mul : OpS X G W (binaryOp .Mult) oMul := by
  refine ops_of (op_mul.or (op_mul_str.or op_rep)) fun ρ h H σ u v x y Q hR r1 r2 hP => ?_
  unfold oMul at hP
  split at hP
  · cases r1; cases r2
    split at hP
    · rename_i i j _ hz
      refine .inl ⟨_, _, rfl, rfl, ?_, PostG.ret hR (.int _) hP⟩
      rcases Bool.or_eq_true_iff.mp hz with z | z
      · exact .inl (of_decide_eq_true z)
      · exact .inr (of_decide_eq_true z)
    · exact hP.elim
  · cases r1; cases r2
    split at hP
    · rename_i hz
      exact .inr (.inl ⟨_, _, rfl, rfl, hz.1, hz.2.1, hz.2.2, PostG.ret hR (.str _) hP⟩)
    · exact hP.elim
  · cases r1 with | ref h1 => ?_
    cases r2
    split at hP
    · rename_i xs e1
      obtain ⟨_, vs, f1, t1⟩ := hR.lst e1
      split at hP
      · rename_i hz
        refine .inr (.inr ⟨_, _, _, rfl, rfl, f1, by omega, by omega, ?_, fun p hp => new_lst hR hp ?_ hP⟩)
        · rw [← t1.length, lim_eq]
          exact Nat.le_trans (Nat.mul_le_mul hz.2.2 (Int.toNat_le.mpr hz.2.1 : _ ≤ 1000)) (by decide)
        · exact rep_vs t1 _
      · exact hP.elim
    · exact hP.elim
  · exact hP.elim
end

def oAddI : SV → SV → Hs → Out SV
  | .int i, .int j, h => .ok (.int (i + j)) h
  | .str x, .str y, h => if x.length + y.length ≤ 16777216 then .ok (.str (x ++ y)) h else .stuck
  | _, _, _ => .stuck
/-! ### data -/
def toD : Nat → Hs → SV → Option PyData
  | 0, _, _ => none
  | n + 1, h, v => match v with
    | .non => some .none
    | .bl b => some (.bool b)
    | .int i => some (.int i)
    | .str x => some (.str x)
    | .tup xs => (xs.mapM (toD n h)).map .tuple
    | .ref a => match h[a]? with
      | some (.lst xs) => (xs.mapM (toD n h)).map .list
      | _ => none
    | .scr ns => some (.list (ns.map .int))
    | _ => none
section
variable {Z : Cz} {ρ : Nat → Addr} {h : Hs} {H : Hp}
theorem dpAll_ints : ∀ (ns : List Int), DpAll Z.K H (ns.map V.int) (ns.map PyData.int)
  | [] => .nil
  | n :: ns => .cons (.int n) (dpAll_ints ns)
theorem toD_dp (R : RHp Z ρ h H) : ∀ (n : Nat) {v : SV} {x : V} {d : PyData}, RV Z ρ h.length H v x → toD n h v = some d → Dp Z.K H x d
  | 0, _, _, _, _, e => by simp [toD] at e
  | n + 1, v, x, d, r, e => by
    have all : ∀ {xs : List SV} {vs : List V} {ds : List PyData}, RVs Z ρ h.length H xs vs → xs.mapM (toD n h) = some ds → DpAll Z.K H vs ds := by
      intro xs
      induction xs with
      | nil => intro vs ds r e; cases r; simp at e; subst e; exact .nil
      | cons a xs ih =>
        intro vs ds r e
        cases r with | cons r1 t1 => ?_
        rw [List.mapM_cons] at e
        cases e1 : toD n h a with
        | none => rw [e1] at e; simp at e
        | some d1 =>
          cases e2 : xs.mapM (toD n h) with
          | none => rw [e1, e2] at e; simp at e
          | some d2 =>
            rw [e1, e2] at e
            simp at e; subst e
            exact .cons (toD_dp R n r1 e1) (ih t1 e2)
    cases r with
    | non => simp [toD] at e; subst e; exact .non
    | bl b => simp [toD] at e; subst e; exact .bl b
    | int i => simp [toD] at e; subst e; exact .int i
    | str z => simp [toD] at e; subst e; exact .str z
    | tup q t =>
      simp only [toD, Option.map_eq_some_iff] at e
      obtain ⟨ds, e1, rfl⟩ := e
      exact .tup q (all t e1)
    | ref hi =>
      simp only [toD] at e
      split at e
      · rename_i xs e0
        obtain ⟨_, vs, f, t⟩ := R.lst e0
        simp only [Option.map_eq_some_iff] at e
        obtain ⟨ds, e1, rfl⟩ := e
        exact .lst (SqL.of f) (all t e1)
      · cases e
    | obj c => simp [toD] at e
    | ty t => simp [toD] at e
    | xn _ _ _ _ _ => simp [toD] at e
    | rng _ => simp [toD] at e
    | scr q =>
      simp [toD] at e; subst e
      rcases q with ⟨o, q⟩ | q
      · exact .lst (.inl (.inr ⟨o, q⟩)) (dpAll_ints _)
      · exact .lst (q H) (dpAll_ints _)
end
/-- two values as data -/
def two (h : Hs) (u v : SV) (f : PyData → PyData → SV) : Out SV := match toD 30 h u, toD 30 h v with
  | some d, some e => if (SeqAt.shaped d && SeqAt.shaped e) = true then .ok (f d e) h else .stuck
  | _, _ => .stuck
def oEq : SV → SV → Hs → Out SV := fun u v h => two h u v fun d e => .bl (PyData.eqv d e)
def oNe : SV → SV → Hs → Out SV := fun u v h => two h u v fun d e => .bl (!PyData.eqv d e)
section
variable {X : Cx} {G : Nat → Addr} {W : WX}
theorem os_eq (ok : XOs X W) : OpS X G W (compareOp .Eq) oEq := by
  refine ops_of (op_eqD (by have := ok.hu; omega)) fun ρ h H σ u v x y Q hR r1 r2 hP => ?_
  unfold oEq two at hP
  split at hP
  · rename_i d e e1 e2
    split at hP
    · rename_i hz
      rw [Bool.and_eq_true] at hz
      exact ⟨d, e, toD_dp hR 30 r1 e1, toD_dp hR 30 r2 e2, hz.1, hz.2, PostG.ret hR (.bl _) hP⟩
    · exact hP.elim
  · exact hP.elim
theorem os_ne (ok : XOs X W) : OpS X G W (compareOp .NotEq) oNe := by
  refine ops_of (op_neD (by have := ok.hu; omega)) fun ρ h H σ u v x y Q hR r1 r2 hP => ?_
  unfold oNe two at hP
  split at hP
  · rename_i d e e1 e2
    split at hP
    · rename_i hz
      rw [Bool.and_eq_true] at hz
      exact ⟨d, e, toD_dp hR 30 r1 e1, toD_dp hR 30 r2 e2, hz.1, hz.2, PostG.ret hR (.bl _) hP⟩
    · exact hP.elim
  · exact hP.elim
theorem os_iadd : OpS X G W (inplaceOp .Add) oAddI := by
  refine ops_of (iop_add.or iop_add_str) fun ρ h H σ u v x y Q hR r1 r2 hP => ?_
  unfold oAddI at hP
  split at hP
  · cases r1; cases r2; exact .inl ⟨_, _, rfl, rfl, PostG.ret hR (.int _) hP⟩
  · cases r1; cases r2
    split at hP
    · rename_i hz
      exact .inr ⟨_, _, rfl, rfl, by rw [lim_eq]; exact hz, PostG.ret hR (.str _) hP⟩
    · exact hP.elim
  · exact hP.elim
theorem os_isub : OpS X G W (inplaceOp .Sub) oSub := by
  refine ops_of iop_sub fun ρ h H σ u v x y Q hR r1 r2 hP => ?_
  unfold oSub at hP
  split at hP
  · cases r1; cases r2; exact ⟨_, _, rfl, rfl, PostG.ret hR (.int _) hP⟩
  · exact hP.elim
end
def oLt : SV → SV → Hs → Out SV
  | .int i, .int j, h => .ok (.bl (decide (i < j))) h
  | _, _, _ => .stuck
def oLe : SV → SV → Hs → Out SV
  | .int i, .int j, h => .ok (.bl (decide (i ≤ j))) h
  | _, _, _ => .stuck
def oGt : SV → SV → Hs → Out SV
  | .int i, .int j, h => .ok (.bl (decide (j < i))) h
  | _, _, _ => .stuck
def oGe : SV → SV → Hs → Out SV
  | .int i, .int j, h => .ok (.bl (decide (j ≤ i))) h
  | _, _, _ => .stuck
def oIs : SV → SV → Hs → Out SV
  | u, .non, h => .ok (.bl (decide (u = .non))) h
  | _, _, _ => .stuck
def oIsN : SV → SV → Hs → Out SV
  | u, .non, h => .ok (.bl (!decide (u = .non))) h
  | _, _, _ => .stuck
def flatS : SV → Bool
  | .non | .bl _ | .int _ | .str _ => true
  | _ => false
def eqS : SV → SV → Bool := fun a b => match toD 1 [] a, toD 1 [] b with
  | some d, some e => PyData.eqv d e
  | _, _ => false
/-- x in .. -/
def inS : SV → SV → Hs → Option Bool
  | x, .tup ys, h => if (flatS x && ys.all flatS) = true then some (ys.any fun y => eqS y x) else none
  | x, .ref a, h => match h[a]? with
    | some (.lst ys) => (match toD 30 h x, (ys.mapM (toD 29 h)).map PyData.list with
      | some d, some (.list ds) => if (SeqAt.shaped d && SeqAt.shaped (.list ds)) = true then some (ds.any fun z => PyData.eqv z d) else none
      | _, _ => none)
    | _ => none
  | .str x, .str y, h => some (!(Builtin.Str.occurrences y x 0 y.length 1).isEmpty)
  | _, _, _ => none
def oIn : SV → SV → Hs → Out SV := fun u v h => match inS u v h with
  | some b => .ok (.bl b) h
  | none => .stuck
def oNotIn : SV → SV → Hs → Out SV := fun u v h => match inS u v h with
  | some b => .ok (.bl (!b)) h
  | none => .stuck
section
variable {X : Cx} {G : Nat → Addr} {W : WX}
theorem os_lt : OpS X G W (compareOp .Lt) oLt := by
  refine ops_of op_lt fun ρ h H σ u v x y Q hR r1 r2 hP => ?_
  unfold oLt at hP
  split at hP
  · cases r1; cases r2; exact ⟨_, _, rfl, rfl, PostG.ret hR (.bl _) hP⟩
  · exact hP.elim
theorem os_le : OpS X G W (compareOp .LtE) oLe := by
  refine ops_of op_le fun ρ h H σ u v x y Q hR r1 r2 hP => ?_
  unfold oLe at hP
  split at hP
  · cases r1; cases r2; exact ⟨_, _, rfl, rfl, PostG.ret hR (.bl _) hP⟩
  · exact hP.elim
theorem os_gt : OpS X G W (compareOp .Gt) oGt := by
  refine ops_of op_gt fun ρ h H σ u v x y Q hR r1 r2 hP => ?_
  unfold oGt at hP
  split at hP
  · cases r1; cases r2; exact ⟨_, _, rfl, rfl, PostG.ret hR (.bl _) hP⟩
  · exact hP.elim
theorem os_ge : OpS X G W (compareOp .GtE) oGe := by
  refine ops_of op_ge fun ρ h H σ u v x y Q hR r1 r2 hP => ?_
  unfold oGe at hP
  split at hP
  · cases r1; cases r2; exact ⟨_, _, rfl, rfl, PostG.ret hR (.bl _) hP⟩
  · exact hP.elim
theorem rv_non {Z : Cz} {ρ : Nat → Addr} {n : Nat} {H : Hp} {u : SV} {x : V} (r : RV Z ρ n H u x) : decide (x = V.non) = decide (u = SV.non) := by
  cases r <;> simp
theorem os_is : OpS X G W (compareOp .Is) oIs := by
  refine ops_of op_isN fun ρ h H σ u v x y Q hR r1 r2 hP => ?_
  unfold oIs at hP
  split at hP
  · cases r2; refine ⟨rfl, ?_⟩
    rw [rv_non r1]
    exact PostG.ret hR (.bl _) hP
  · exact hP.elim
theorem os_isN : OpS X G W (compareOp .IsNot) oIsN := by
  refine ops_of op_notN fun ρ h H σ u v x y Q hR r1 r2 hP => ?_
  unfold oIsN at hP
  split at hP
  · cases r2; refine ⟨rfl, ?_⟩
    rw [rv_non r1]
    exact PostG.ret hR (.bl _) hP
  · exact hP.elim
theorem flat_rv {Z : Cz} {ρ : Nat → Addr} {n : Nat} {H : Hp} {u : SV} {x : V} (r : RV Z ρ n H u x) (f : flatS u = true) : flatV x = true := by
  cases r <;> first | rfl | simp [flatS] at f
theorem flat_all {Z : Cz} {ρ : Nat → Addr} {n : Nat} {H : Hp} : ∀ {us : List SV} {xs : List V}, RVs Z ρ n H us xs → us.all flatS = true → xs.all flatV = true
  | _, _, .nil, _ => rfl
  | _, _, .cons r t, f => by
    simp only [List.all_cons, Bool.and_eq_true] at f ⊢
    exact ⟨flat_rv r f.1, flat_all t f.2⟩
theorem eqS_rv {Z : Cz} {ρ : Nat → Addr} {n : Nat} {H : Hp} {u v : SV} {x y : V} (r : RV Z ρ n H u x) (r2 : RV Z ρ n H v y) (f : flatS u = true) (f2 : flatS v = true) : eqV x y = eqS u v := by
  cases r <;> first | (simp [flatS] at f; done) | skip
  all_goals (cases r2 <;> first | (simp [flatS] at f2; done) | skip)
  all_goals simp [eqV, eqS, toD, PyData.eqv]
theorem op_in_tupD (hu : X.A.units + 65 < cLine) : OpR X (compareOp .In) (rIn X.K false) := op_in_seq
theorem any_eqS {Z : Cz} {ρ : Nat → Addr} {n : Nat} {H : Hp} {u : SV} {x : V} (r : RV Z ρ n H u x) (f : flatS u = true) : ∀ {us : List SV} {xs : List V}, RVs Z ρ n H us xs → us.all flatS = true → inV x xs = us.any fun y => eqS y u
  | _, _, .nil, _ => rfl
  | _, _, .cons r1 t, g => by
    simp only [List.all_cons, Bool.and_eq_true] at g
    have ih := any_eqS r f t g.2
    unfold inV at ih ⊢
    rw [List.any_cons, List.any_cons, ih, eqS_rv r1 r g.1 f]
theorem inS_rule {ρ : Nat → Addr} {h : Hs} {H : Hp} {u v : SV} {x y : V} {b : Bool} (hR : RHp (zOf X G) ρ h H) (r1 : RV (zOf X G) ρ h.length H u x) (r2 : RV (zOf X G) ρ h.length H v y) (e : inS u v h = some b) :
    (∃ p xs, y = .ref p ∧ (SqL X.K H p xs ∨ SqT X.K H p xs) ∧ flatV x = true ∧ xs.all flatV = true ∧ b = inV x xs) ∨
    (∃ d ds, Dp X.K H x d ∧ Dp X.K H y (.list ds) ∧ SeqAt.shaped d = true ∧ SeqAt.shaped (.list ds) = true ∧ b = ds.any fun z => PyData.eqv z d) ∨
    (∃ i j, x = .str i ∧ y = .str j ∧ b = !(Builtin.Str.occurrences j i 0 j.length 1).isEmpty) := by
  unfold inS at e
  split at e
  · cases r2 with | tup q t => ?_
    split at e
    · rename_i hz
      rw [Bool.and_eq_true] at hz
      cases e
      exact .inl ⟨_, _, rfl, .inr q, flat_rv r1 hz.1, flat_all t hz.2, (any_eqS r1 hz.1 t hz.2).symm⟩
    · cases e
  · split at e
    · rename_i ys e0
      split at e
      · rename_i d ds e1 e2
        split at e
        · rename_i hz
          rw [Bool.and_eq_true] at hz
          cases e
          refine .inr (.inl ⟨d, ds, toD_dp hR 30 r1 e1, toD_dp hR 30 r2 ?_, hz.1, hz.2, rfl⟩)
          simp only [toD, e0]
          exact e2
        · cases e
      · cases e
    · cases e
  · cases r1; cases r2; cases e
    exact .inr (.inr ⟨_, _, rfl, rfl, rfl⟩)
  · cases e
theorem os_in (ok : XOs X W) : OpS X G W (compareOp .In) oIn := by
  refine ops_of (op_in_seq.or ((op_inD (by have := ok.hu; omega)).or op_in_str)) fun ρ h H σ u v x y Q hR r1 r2 hP => ?_
  unfold oIn at hP
  split at hP
  · rename_i b e
    have q := PostG.ret hR (.bl b) hP
    rcases inS_rule hR r1 r2 e with ⟨p, xs, rfl, h1, h2, h3, rfl⟩ | ⟨d, ds, h1, h2, h3, h4, rfl⟩ | ⟨i, j, rfl, rfl, rfl⟩
    · exact .inl ⟨p, xs, rfl, h1, h2, h3, q⟩
    · exact .inr (.inl ⟨d, ds, h1, h2, h3, h4, q⟩)
    · exact .inr (.inr ⟨i, j, rfl, rfl, q⟩)
  · exact hP.elim
theorem os_notin (ok : XOs X W) : OpS X G W (compareOp .NotIn) oNotIn := by
  refine ops_of (op_notIn_seq.or ((op_notInD (by have := ok.hu; omega)).or op_notIn_str)) fun ρ h H σ u v x y Q hR r1 r2 hP => ?_
  unfold oNotIn at hP
  split at hP
  · rename_i b e
    have q := PostG.ret hR (.bl (!b)) hP
    rcases inS_rule hR r1 r2 e with ⟨p, xs, rfl, h1, h2, h3, rfl⟩ | ⟨d, ds, h1, h2, h3, h4, rfl⟩ | ⟨i, j, rfl, rfl, rfl⟩
    · exact .inl ⟨p, xs, rfl, h1, h2, h3, q⟩
    · exact .inr (.inl ⟨d, ds, h1, h2, h3, h4, q⟩)
    · exact .inr (.inr ⟨i, j, rfl, rfl, q⟩)
  · exact hP.elim
/-! ### comparisons, tests -/
variable {pos : Pos} {a b c : Expr} {ra rb rc : EF}
theorem se_cmp {op : CmpOp} {f : SV → SV → Hs → Out SV} (ho : OpS X G W (compareOp op) f) (sa : SE X G W a ra) (sb : SE X G W b rb) (hm : behindInMarks op b = false := by first | exact nomark _ | rfl) : SE X G W (.Compare a [op] [b] pos) (rB f ra rb) :=
  .of fun ρ σs h σ H Q hE hR hP pins s I => wpAny_Compare1 (binT (R := fun x y H2 => ∀ (pins : List (Addr × Obj)) (s : Shared) (a b : Value), Inv X pins σ H2 s → RelV x a → RelV y b → wpAny (model X.prog X.w) X.A (compareOp op a b) (EP X pins σ Q) X.xe s) pe_any pe_any I
    (seq2 sa sb hE hR hP fun u v h2 ρ2 H2 x y R2 r1 r2 p pins s a b I => ho ρ2 h2 H2 σ u v x y Q R2 r1 r2 p pins s σ a b I) fun v u s2 x y H2 I2 rx ry q => q pins s2 v u I2 rx ry) hm
/-- a value's truth -/
def truS : SV → Hs → Option Bool
  | .non, _ => some false
  | .bl b, _ => some b
  | .int i, _ => some (i != 0)
  | .str x, _ => if x.length ≤ 16777216 then some ((x.length : Int) != 0) else none
  | .tup xs, _ => some (!xs.isEmpty)
  | .ref a, h => match h[a]? with
    | some (.lst xs) => some (!xs.isEmpty)
    | some (.dct xs) => some (!xs.isEmpty)
    | _ => none
  | _, _ => none
def rT (ra : EF) : SEnv → Hs → Out Bool := fun σ h => (ra σ h).bnd fun v h => match truS v h with
  | some b => .ok b h
  | none => .stuck
/-- .. of a bool alone -/
def rTB (ra : EF) : SEnv → Hs → Out Bool := fun σ h => (ra σ h).bnd fun v h => match v with
  | .bl b => .ok b h
  | _ => .stuck
theorem truS_ok {ρ : Nat → Addr} {h : Hs} {H : Hp} {u : SV} {x : V} {k : Bool} (hR : RHp (zOf X G) ρ h H) (r : RV (zOf X G) ρ h.length H u x) (e : truS u h = some k) : TruV X.K x H k := by
  unfold truS at e
  split at e
  · cases r; cases e; exact rfl
  · cases r; cases e; exact rfl
  · cases r; cases e; exact rfl
  · cases r
    split at e
    · rename_i hz; cases e; exact ⟨by rw [lim_eq]; exact hz, rfl⟩
    · cases e
  · cases r with | tup q t => ?_
    cases e
    refine .inr (.inl ⟨_, q, ?_⟩)
    cases t <;> rfl
  · cases r with | ref hi => ?_
    split at e
    · rename_i e0
      obtain ⟨_, vs, f, t⟩ := hR.lst e0
      cases e
      refine .inl ⟨_, SqL.of f, ?_⟩
      cases t <;> rfl
    · rename_i e0
      obtain ⟨_, vs, f, t⟩ := hR.dct e0
      cases e
      refine .inr (.inr ⟨_, f, ?_⟩)
      cases t <;> rfl
    · cases e
  · cases e
theorem st_truth (sa : SE X G W a ra) (he : ∀ whole, isTrue a X.env whole = (do let v ← whole; standAt a.pos; holding [v] (truthy v)) := by intro _; rfl) : ST X G W a (rT ra) :=
  .of fun ρ σs h σ H Q hE hR hP => any_pt (pt_truth pe_any he) (sa ρ σs h σ H _ hE hR (hP.fst fun v h1 ρ1 H1 x _ E1 R1 v1 p1 => by
    split at p1
    · rename_i b e; exact ⟨b, truS_ok R1 v1 e, PostG.ret R1 rfl p1⟩
    · exact p1.elim))
def tCmpA (X : Cx) (op : CmpOp) (a b : Expr) : TE := fun σ H Q => tAny X a σ H fun x H1 => tAny X b σ H1 fun y H2 => ∀ (pins : List (Addr × Obj)) (s : Shared) (a b : Value), Inv X pins σ H2 s → RelV x a → RelV y b → wpAny (model X.prog X.w) X.A (compareOp op a b) (EP X pins σ Q) X.xe s
theorem pc_any {op : CmpOp} : PC X op a b (tCmpA X op a b) := ⟨fun pins s σ H Q I h => binT pe_any pe_any I h fun v u s2 x y H2 I2 rx ry q => q pins s2 v u I2 rx ry⟩
theorem bool_post {r : Out SV} {ρ : Nat → Addr} {h : Hs} {H : Hp} {σ : L2.St} {Q : Bool → Hp → Prop} (hP : PostB (zOf X G) W ρ h H σ (r.bnd fun v h => match v with | .bl b => .ok b h | _ => .stuck) Q) : PostE (zOf X G) W ρ h H σ r (fun x H1 => ∃ c, x = .bl c ∧ Q c H1) :=
  hP.fst fun v h1 ρ1 H1 x _ E1 R1 v1 p1 => by
    cases v1 <;> first | exact p1.elim | exact ⟨_, rfl, PostG.ret R1 rfl p1⟩
theorem st_cmp {op : CmpOp} {f : SV → SV → Hs → Out SV} (ho : OpS X G W (compareOp op) f) (sa : SE X G W a ra) (sb : SE X G W b rb) (hm : behindInMarks op b = false := by first | exact nomark _ | rfl) : ST X G W (.Compare a [op] [b] pos) (rTB (rB f ra rb)) :=
  .of fun ρ σs h σ H Q hE hR hP => any_pt (pt_cmp pc_any hm) (seq2 (f := f) sa sb hE hR (bool_post hP) fun u v h2 ρ2 H2 x y R2 r1 r2 p pins s a b I => ho ρ2 h2 H2 σ u v x y _ R2 r1 r2 p pins s σ a b I)
/-- a < b < c -/
def rChain (f g : SV → SV → Hs → Out SV) (ra rb rc : EF) : EF := fun σ h => (ra σ h).bnd fun a h => (rb σ h).bnd fun b h => (f a b h).bnd fun k h => match k with
  | .bl true => (rc σ h).bnd fun c h => g b c h
  | .bl false => .ok (.bl false) h
  | _ => .stuck
def OpB (X : Cx) (F : Value → Value → Sem Value) : R2 := fun x y H Q => ∀ (pins : List (Addr × Obj)) (s : Shared) (σ : L2.St) (a b : Value), Inv X pins σ H s → RelV x a → RelV y b → wpAny (model X.prog X.w) X.A (F a b) (EP X pins σ Q) X.xe s
theorem opB_any {F : Value → Value → Sem Value} : OpR X F (OpB X F) := fun pins s σ H x y v u Q I rx ry h => h pins s σ v u I rx ry
section
variable {f g : SV → SV → Hs → Out SV} {op op2 : CmpOp} {ρ : Nat → Addr} {σs : SEnv} {h : Hs} {H : Hp} {σ : L2.St} {Q : VK}
theorem chain_post (ho : OpS X G W (compareOp op) f) (hg : OpS X G W (compareOp op2) g) (sa : SE X G W a ra) (sb : SE X G W b rb) (sc : SE X G W c rc)
    (hE : REnv (zOf X G) ρ h.length H σs σ) (hR : RHp (zOf X G) ρ h H) (hP : PostE (zOf X G) W ρ h H σ (rChain f g ra rb rc σs h) Q) :
    tChain (OpB X (compareOp op)) (OpB X (compareOp op2)) (tAny X a) (tAny X b) (tAny X c) σ H Q := by
  refine sa ρ σs h σ H _ hE hR (hP.fst fun u h1 ρ1 H1 x _ E1 R1 v1 p1 => ?_)
  refine sb ρ1 σs h1 σ H1 _ (hE.ext hR E1) R1 (p1.fst fun v h2 ρ2 H2 y _ E2 R2 v2 p2 => ?_)
  refine ho ρ2 h2 H2 σ u v x y _ R2 (v1.ext R1 E2) v2 (p2.fst fun k h3 ρ3 H3 z _ E3 R3 v3 p3 => ?_)
  split at p3
  · cases v3
    refine ⟨true, rfl, ?_⟩
    rw [if_pos rfl]
    refine sc ρ3 σs h3 σ H3 _ (((hE.ext hR E1).ext R1 E2).ext R2 E3) R3 (p3.fst fun w h4 ρ4 H4 z2 _ E4 R4 v4 p4 => ?_)
    exact hg ρ4 h4 H4 σ v w y z2 Q R4 ((v2.ext R2 E3).ext R3 E4) v4 p4
  · cases v3
    refine ⟨false, rfl, ?_⟩
    rw [if_neg Bool.false_ne_true]
    exact PostG.ret R3 (.bl false) p3
  · exact p3.elim
end
end
end Pz

set_option Elab.async false
set_option linter.all false
set_option maxRecDepth 100000
set_option maxHeartbeats 1000000
namespace Pz
open PySem PySem.Spec L2
section
variable {X : Cx} {G : Nat → Addr} {W : WX} {pos : Pos} {a b c : Expr} {ra rb rc : EF} {tA tB2 : SEnv → Hs → Out Bool} {es : List Expr} {re : LF}
theorem se_chain {op op' : CmpOp} {f g : SV → SV → Hs → Out SV} (ho : OpS X G W (compareOp op) f) (hg : OpS X G W (compareOp op') g) (sa : SE X G W a ra) (sb : SE X G W b rb) (sc : SE X G W c rc)
    (hm : lastMarks [op, op'] [b, c] = false := by with_unfolding_all rfl) : SE X G W (.Compare a [op, op'] [b, c] pos) (rChain f g ra rb rc) :=
  se_pe (pe_chain opB_any opB_any pe_any pe_any pe_any hm) fun ρ σs h σ H Q hE hR hP => chain_post ho hg sa sb sc hE hR hP
theorem st_chain {op op' : CmpOp} {f g : SV → SV → Hs → Out SV} (ho : OpS X G W (compareOp op) f) (hg : OpS X G W (compareOp op') g) (sa : SE X G W a ra) (sb : SE X G W b rb) (sc : SE X G W c rc)
    (hm : lastMarks [op, op'] [b, c] = false := by with_unfolding_all rfl) : ST X G W (.Compare a [op, op'] [b, c] pos) (rTB (rChain f g ra rb rc)) :=
  .of fun ρ σs h σ H Q hE hR hP => any_pt (pt_chain opB_any opB_any pe_any pe_any pe_any hm) (chain_post ho hg sa sb sc hE hR (bool_post hP))

/-! ### and, or, not, if-else -/
def rAndT (t u : SEnv → Hs → Out Bool) : SEnv → Hs → Out Bool := fun σ h => (t σ h).bnd fun k h => if k = true then u σ h else .ok false h
def rOrT (t u : SEnv → Hs → Out Bool) : SEnv → Hs → Out Bool := fun σ h => (t σ h).bnd fun k h => if k = true then .ok true h else u σ h
def rNotT (t : SEnv → Hs → Out Bool) : SEnv → Hs → Out Bool := fun σ h => (t σ h).bnd fun k h => .ok (!k) h
theorem st_w (s : SW X G W a tA) : ST X G W a tA := .of fun ρ σs h σ H Q hE hR hP pins s' I => s ρ σs h σ H Q hE hR hP _ pins s' I
theorem sw_and1 (s : ST X G W a tA) : SW X G W (.BoolOp .And [a] pos) tA := .of fun ρ σs h σ H Q hE hR hP => any_pw (pw_and1 pt_any) (s ρ σs h σ H Q hE hR hP)
theorem sw_or1 (s : ST X G W a tA) : SW X G W (.BoolOp .Or [a] pos) tA := .of fun ρ σs h σ H Q hE hR hP => any_pw (pw_or1 pt_any) (s ρ σs h σ H Q hE hR hP)
theorem sw_and {rest : List Expr} (s : ST X G W a tA) (s2 : SW X G W (.BoolOp .And (b :: rest) pos) tB2) : SW X G W (.BoolOp .And (a :: b :: rest) pos) (rAndT tA tB2) :=
  .of fun ρ σs h σ H Q hE hR hP => any_pw (pw_and pt_any pw_any) (s ρ σs h σ H _ hE hR (hP.fst fun k h1 ρ1 H1 k' _ E1 R1 e p1 => by
    have e' : k = k' := e
    subst e'
    cases k with
    | true => rw [if_pos rfl] at p1 ⊢; exact s2 ρ1 σs h1 σ H1 Q (hE.ext hR E1) R1 p1
    | false => rw [if_neg Bool.false_ne_true] at p1 ⊢; exact PostG.ret R1 rfl p1))
theorem sw_or {rest : List Expr} (s : ST X G W a tA) (s2 : SW X G W (.BoolOp .Or (b :: rest) pos) tB2) : SW X G W (.BoolOp .Or (a :: b :: rest) pos) (rOrT tA tB2) :=
  .of fun ρ σs h σ H Q hE hR hP => any_pw (pw_or pt_any pw_any) (s ρ σs h σ H _ hE hR (hP.fst fun k h1 ρ1 H1 k' _ E1 R1 e p1 => by
    have e' : k = k' := e
    subst e'
    cases k with
    | true => rw [if_pos rfl] at p1 ⊢; exact PostG.ret R1 rfl p1
    | false => rw [if_neg Bool.false_ne_true] at p1 ⊢; exact s2 ρ1 σs h1 σ H1 Q (hE.ext hR E1) R1 p1))
theorem st_not (s : ST X G W a tA) : ST X G W (.UnaryOp .Not a pos) (rNotT tA) :=
  .of fun ρ σs h σ H Q hE hR hP => any_pt (pt_not pt_any) (s ρ σs h σ H _ hE hR (hP.fst fun k h1 ρ1 H1 k' _ E1 R1 e p1 => by
    have e' : k = k' := e
    subst e'
    exact PostG.ret R1 rfl p1))
/-- values that are bools -/
def rBl (ra : EF) (k : Bool → SEnv → Hs → Out SV) : EF := fun σ h => (ra σ h).bnd fun v h => match v with
  | .bl c => k c σ h
  | _ => .stuck
def rAnd (ra rb : EF) : EF := rBl ra fun c σ h => if c = true then rb σ h else .ok (.bl false) h
def rOr (ra rb : EF) : EF := rBl ra fun c σ h => if c = true then .ok (.bl true) h else rb σ h
def rNot (ra : EF) : EF := rBl ra fun c _ h => .ok (.bl (!c)) h
theorem se_one {op} (s : SE X G W a ra) : SE X G W (.BoolOp op [a] pos) ra := se_pe (pe_one pe_any) fun ρ σs h σ H Q hE hR hP => s ρ σs h σ H Q hE hR hP
theorem se_and {rest : List Expr} (s : SE X G W a ra) (s2 : SE X G W (.BoolOp .And (b :: rest) pos) rb) : SE X G W (.BoolOp .And (a :: b :: rest) pos) (rAnd ra rb) :=
  se_pe (pe_and pe_any pe_any) fun ρ σs h σ H Q hE hR hP => s ρ σs h σ H _ hE hR (hP.fst fun v h1 ρ1 H1 x _ E1 R1 v1 p1 => by
    cases v1 <;> first | exact p1.elim | skip
    rename_i k _
    refine ⟨k, rfl, ?_⟩
    cases k with
    | true => exact s2 ρ1 σs h1 σ H1 Q (hE.ext hR E1) R1 p1
    | false => exact PostG.ret R1 (.bl false) p1)
theorem se_or {rest : List Expr} (s : SE X G W a ra) (s2 : SE X G W (.BoolOp .Or (b :: rest) pos) rb) : SE X G W (.BoolOp .Or (a :: b :: rest) pos) (rOr ra rb) :=
  se_pe (pe_or pe_any pe_any) fun ρ σs h σ H Q hE hR hP => s ρ σs h σ H _ hE hR (hP.fst fun v h1 ρ1 H1 x _ E1 R1 v1 p1 => by
    cases v1 <;> first | exact p1.elim | skip
    rename_i k _
    refine ⟨k, rfl, ?_⟩
    cases k with
    | true => exact PostG.ret R1 (.bl true) p1
    | false => exact s2 ρ1 σs h1 σ H1 Q (hE.ext hR E1) R1 p1)
theorem se_not (s : SE X G W a ra) : SE X G W (.UnaryOp .Not a pos) (rNot ra) :=
  se_pe (pe_not pe_any) fun ρ σs h σ H Q hE hR hP => s ρ σs h σ H _ hE hR (hP.fst fun v h1 ρ1 H1 x _ E1 R1 v1 p1 => by
    cases v1 <;> first | exact p1.elim | skip
    exact ⟨_, rfl, PostG.ret R1 (.bl _) p1⟩)
def rIfE (t : SEnv → Hs → Out Bool) (ra rb : EF) : EF := fun σ h => (t σ h).bnd fun k h => if k = true then ra σ h else rb σ h
theorem se_ifE (s : ST X G W c tA) (sa : SE X G W a ra) (sb : SE X G W b rb) : SE X G W (.IfExp c a b pos) (rIfE tA ra rb) :=
  se_pe (pe_ifExp pt_any pe_any pe_any) fun ρ σs h σ H Q hE hR hP => s ρ σs h σ H _ hE hR (hP.fst fun k h1 ρ1 H1 k' _ E1 R1 e p1 => by
    have e' : k = k' := e
    subst e'
    cases k with
    | true => rw [if_pos rfl] at p1 ⊢; exact sa ρ1 σs h1 σ H1 Q (hE.ext hR E1) R1 p1
    | false => rw [if_neg Bool.false_ne_true] at p1 ⊢; exact sb ρ1 σs h1 σ H1 Q (hE.ext hR E1) R1 p1)
/-- -e -/
def oNeg : SV → Hs → Out SV
  | .int i, h => .ok (.int (-i)) h
  | _, _ => .stuck
def rU (f : SV → Hs → Out SV) (ra : EF) : EF := fun σ h => (ra σ h).bnd fun v h => f v h
theorem se_neg (s : SE X G W a ra) : SE X G W (.UnaryOp .USub a pos) (rU oNeg ra) :=
  se_pe (pe_un un_neg pe_any) fun ρ σs h σ H Q hE hR hP => s ρ σs h σ H _ hE hR (hP.fst fun v h1 ρ1 H1 x _ E1 R1 v1 p1 => by
    unfold oNeg at p1
    cases v1 <;> first | exact p1.elim | skip
    exact ⟨_, rfl, PostG.ret R1 (.int _) p1⟩)

/-! ### argument lists, displays -/
def lNil : LF := fun _ h => .ok [] h
def lCons (ra : EF) (rl : LF) : LF := fun σ h => (ra σ h).bnd fun v h => (rl σ h).bnd fun vs h => .ok (v :: vs) h
theorem sa_nil : SA X G W [] lNil := .of fun ρ σs h σ H Q hE hR hP => any_pa pa_nil (PostG.ret hR .nil hP)
theorem sa_cons (s : SE X G W a ra) (sl : SA X G W es re) (hs : starEach (a :: es) X.env = (false, eval a X.env) :: starEach es X.env := by rfl) : SA X G W (a :: es) (lCons ra re) :=
  .of fun ρ σs h σ H Q hE hR hP => any_pa (pa_cons pe_any pa_any hs) (s ρ σs h σ H _ hE hR (hP.fst fun v h1 ρ1 H1 x _ E1 R1 v1 p1 =>
    sl ρ1 σs h1 σ H1 _ (hE.ext hR E1) R1 (p1.fst fun vs h2 ρ2 H2 xs _ E2 R2 v2 p2 => PostG.ret R2 (.cons (v1.ext R1 E2) v2) p2)))
def rTup (re : LF) : EF := fun σ h => (re σ h).bnd fun vs h => if vs.length ≤ 1000000 then .ok (.tup vs) h else .stuck
def rLst (re : LF) : EF := fun σ h => (re σ h).bnd fun vs h => if vs.length ≤ 1000000 then .ok (.ref h.length) (h ++ [.lst vs]) else .stuck
theorem lim_big {n : Nat} (h : n ≤ 1000000) : n ≤ sizeLine := by rw [lim_eq]; omega
theorem se_tup {k} (sl : SA X G W es re) : SE X G W (.Tuple es k pos) (rTup re) :=
  se_pe (pe_tup pa_any) fun ρ σs h σ H Q hE hR hP => sl ρ σs h σ H _ hE hR (hP.fst fun vs h1 ρ1 H1 xs _ E1 R1 v1 p1 => by
    split at p1
    · rename_i hz; exact ⟨by rw [← v1.length]; exact lim_big hz, fun p hp => new_tup R1 hp v1 p1⟩
    · exact p1.elim)
theorem se_lst (sl : SA X G W es re) : SE X G W (.List es pos) (rLst re) :=
  se_pe (pe_lst pa_any) fun ρ σs h σ H Q hE hR hP => sl ρ σs h σ H _ hE hR (hP.fst fun vs h1 ρ1 H1 xs _ E1 R1 v1 p1 => by
    split at p1
    · rename_i hz; exact ⟨by rw [← v1.length]; exact lim_big hz, fun p hp => new_lst R1 hp v1 p1⟩
    · exact p1.elim)

/-! ### a[i] -/
def oIx : SV → SV → Hs → Out SV
  | .tup xs, .int i, h => match atI xs i with
    | some v => .ok v h
    | none => .stuck
  | .ref a, .int i, h => match h[a]? with
    | some (.lst xs) => (match atI xs i with
      | some v => .ok v h
      | none => .stuck)
    | _ => .stuck
  | .scr ns, .int i, h => match atI ns i with
    | some n => .ok (.int n) h
    | none => .stuck
  | .str z, .int i, h => if z.length ≤ 16777216 then (match atI z.cps.toList i with
      | some c => .ok (.str ⟨#[c]⟩) h
      | none => .stuck) else .stuck
  | _, _, _ => .stuck
theorem atI_rv {Z : Cz} {ρ : Nat → Addr} {n : Nat} {H : Hp} {xs : List SV} {vs : List V} {i : Int} {v : SV} (t : RVs Z ρ n H xs vs) (e : atI xs i = some v) : ∃ x, atI vs i = some x ∧ RV Z ρ n H v x := by
  unfold atI at e ⊢
  rw [← t.length]
  cases q : ixN xs.length i with
  | none => rw [q] at e; cases e
  | some j => rw [q] at e; exact t.get e
theorem atI_map {ns : List Int} {i : Int} {n : Int} (e : atI ns i = some n) : atI (ns.map V.int) i = some (V.int n) := by
  unfold atI at e ⊢
  rw [List.length_map]
  cases q : ixN ns.length i with
  | none => rw [q] at e; cases e
  | some j => rw [q] at e; simpa using e
theorem scr_sq {Z : Cz} {ρ : Nat → Addr} {n : Nat} {H : Hp} {ns : List Int} {x : V} (r : RV Z ρ n H (.scr ns) x) : ∃ a, x = .ref a ∧ SqL Z.K H a (ns.map V.int) := by
  cases r with
  | scr q => rcases q with ⟨o, q⟩ | q
             · exact ⟨_, rfl, .inl (.inr ⟨o, q⟩)⟩
             · exact ⟨_, rfl, q H⟩
theorem ix_rule {ρ : Nat → Addr} {h : Hs} {H : Hp} {σ : L2.St} {u v : SV} {x y : V} {Q : VK} (hR : RHp (zOf X G) ρ h H) (r1 : RV (zOf X G) ρ h.length H u x) (r2 : RV (zOf X G) ρ h.length H v y)
    (hP : PostE (zOf X G) W ρ h H σ (oIx u v h) Q) : rIx X.K x y H Q := by
  unfold oIx at hP
  split at hP
  · cases r1 with | tup q t => ?_
    cases r2
    split at hP
    · rename_i e
      obtain ⟨z, e2, r⟩ := atI_rv t e
      exact .inr (.inl ⟨_, _, _, _, rfl, rfl, q, e2, PostG.ret hR r hP⟩)
    · exact hP.elim
  · cases r1 with | ref hi => ?_
    cases r2
    split at hP
    · rename_i e0
      obtain ⟨_, vs, f, t⟩ := hR.lst e0
      split at hP
      · rename_i e
        obtain ⟨z, e2, r⟩ := atI_rv t e
        exact .inl ⟨_, _, _, _, rfl, rfl, SqL.of f, e2, PostG.ret hR r hP⟩
      · exact hP.elim
    · exact hP.elim
  · obtain ⟨p, rfl, q⟩ := scr_sq r1
    cases r2
    split at hP
    · rename_i e
      exact .inl ⟨_, _, _, _, rfl, rfl, q, atI_map e, PostG.ret hR (.int _) hP⟩
    · exact hP.elim
  · cases r1; cases r2
    split at hP
    · rename_i hz
      split at hP
      · rename_i e
        exact .inr (.inr ⟨_, _, _, rfl, rfl, by rw [lim_eq]; exact hz, e, PostG.ret hR (.str _) hP⟩)
      · exact hP.elim
    · exact hP.elim
  · exact hP.elim
theorem se_ix (sa : SE X G W a ra) (sb : SE X G W b rb) (hs : PlainIx b := by exact fun _ _ => rfl) : SE X G W (.Subscript a b pos) (rB oIx ra rb) :=
  se_pe (pe_ix ix_seq pe_any pe_any hs) fun ρ σs h σ H Q hE hR hP => seq2 (f := oIx) sa sb hE hR hP fun u v h2 ρ2 H2 x y R2 r1 r2 p => ix_rule R2 r1 r2 p

/-! ### a[i:j] -/
def cutS (xs : List SV) (lo hi : Option Int) : List SV := (xs.drop (HT.sIx xs.length 0 lo)).take (HT.sIx xs.length xs.length hi - HT.sIx xs.length 0 lo)
abbrev PF := SEnv → Hs → Out (Option Int)
def pNone : PF := fun _ h => .ok none h
def pSome (ra : EF) : PF := fun σ h => (ra σ h).bnd fun v h => match v with
  | .int i => .ok (some i) h
  | _ => .stuck
def oSl : SV → Option Int → Option Int → Hs → Out SV
  | .tup xs, lo, hi, h => .ok (.tup (cutS xs lo hi)) h
  | .ref a, lo, hi, h => match h[a]? with
    | some (.lst xs) => .ok (.ref h.length) (h ++ [.lst (cutS xs lo hi)])
    | _ => .stuck
  | _, _, _, _ => .stuck
def rSl (ra : EF) (pl ph : PF) : EF := fun σ h => (ra σ h).bnd fun v h => (pl σ h).bnd fun lo h => (ph σ h).bnd fun hi h => oSl v lo hi h
def tAnyO (X : Cx) (e : Option Expr) : TO := fun σ H Q => ∀ (pins : List (Addr × Obj)) (s : Shared), Inv X pins σ H s → wpAny (model X.prog X.w) X.A (evalPart e X.env) (fun u s' => ∃ o H', Inv X pins σ H' s' ∧ IsPart u o ∧ Q o H') X.xe s
theorem po_any {e : Option Expr} : PO X e (tAnyO X e) := ⟨fun pins s σ H Q I h => h pins s I⟩
structure SPt (X : Cx) (G : Nat → Addr) (W : WX) (e : Option Expr) (r : PF) : Prop where of ::
  run : ∀ ρ σs h σ H Q, REnv (zOf X G) ρ h.length H σs σ → RHp (zOf X G) ρ h H → PostG (zOf X G) W ρ h H σ (fun _ _ _ (a b : Option Int) => a = b) (r σs h) Q → tAnyO X e σ H Q
instance (X : Cx) (G : Nat → Addr) (W : WX) (e : Option Expr) (r : PF) : CoeFun (SPt X G W e r) fun _ => ∀ ρ σs h σ H Q, REnv (zOf X G) ρ h.length H σs σ → RHp (zOf X G) ρ h H → PostG (zOf X G) W ρ h H σ (fun _ _ _ (a b : Option Int) => a = b) (r σs h) Q → tAnyO X e σ H Q := ⟨SPt.run⟩
theorem sp_none : SPt X G W none pNone := .of fun ρ σs h σ H Q hE hR hP pins s I => po_none.run pins s σ H Q I (PostG.ret hR rfl hP)
theorem sp_some (sa : SE X G W a ra) : SPt X G W (some a) (pSome ra) := .of fun ρ σs h σ H Q hE hR hP pins s I => (po_some pe_any).run pins s σ H Q I (sa ρ σs h σ H _ hE hR (hP.fst fun v h1 ρ1 H1 x _ E1 R1 v1 p1 => by
  cases v1 <;> first | exact p1.elim | exact ⟨_, rfl, PostG.ret R1 rfl p1⟩))
theorem RVs.cutV {Z : Cz} {ρ : Nat → Addr} {n : Nat} {H : Hp} {xs : List SV} {vs : List V} (t : RVs Z ρ n H xs vs) (lo hi : Option Int) : RVs Z ρ n H (cutS xs lo hi) (L2.cutV vs lo hi) := by
  unfold cutS L2.cutV
  rw [t.length]
  exact (t.drop _).take _
theorem cutS_all {xs : List SV} {lo hi : Option Int} (h : HT.sIx xs.length 0 lo = 0 ∧ HT.sIx xs.length xs.length hi = xs.length) : cutS xs lo hi = xs := by
  unfold cutS
  rw [h.1, h.2]; simp
theorem sl_rule {ρ : Nat → Addr} {h : Hs} {H : Hp} {σ : L2.St} {u : SV} {lo hi : Option Int} {x : V} {Q : VK} (hR : RHp (zOf X G) ρ h H) (r1 : RV (zOf X G) ρ h.length H u x)
    (hP : PostE (zOf X G) W ρ h H σ (oSl u lo hi h) Q) : rSlA X.K x lo hi H Q ∨ rSlL X.K x lo hi H Q := by
  unfold oSl at hP
  split at hP
  · cases r1 with | tup q t => ?_
    refine .inl ⟨_, _, rfl, q, fun e => ?_, fun _ p hp => new_tup hR hp (t.cutV _ _) hP⟩
    rw [← t.length] at e
    rw [cutS_all e] at hP
    exact PostG.ret hR (.tup q t) hP
  · cases r1 with | ref hi => ?_
    split at hP
    · rename_i e0
      obtain ⟨_, vs, f, t⟩ := hR.lst e0
      exact .inr ⟨_, _, rfl, SqL.of f, fun p hp => new_lst hR hp (t.cutV _ _) hP⟩
    · exact hP.elim
  · exact hP.elim
theorem se_sl {lo hi : Option Expr} {pl ph : PF} {p2 : Pos} (sa : SE X G W a ra) (sl : SPt X G W lo pl) (sh : SPt X G W hi ph) : SE X G W (.Subscript a (.Slice lo hi none p2) pos) (rSl ra pl ph) :=
  se_pe (pe_slice (sl_tupA.or sl_list) pe_any po_any po_any) fun ρ σs h σ H Q hE hR hP => sa ρ σs h σ H _ hE hR (hP.fst fun v h1 ρ1 H1 x _ E1 R1 v1 p1 =>
    sl ρ1 σs h1 σ H1 _ (hE.ext hR E1) R1 (p1.fst fun o h2 ρ2 H2 o' _ E2 R2 e2 p2 =>
      sh ρ2 σs h2 σ H2 _ ((hE.ext hR E1).ext R1 E2) R2 (p2.fst fun u h3 ρ3 H3 u' _ E3 R3 e3 p3 => by
        have e2' : o = o' := e2
        have e3' : u = u' := e3
        subst e2' e3'
        exact sl_rule R3 ((v1.ext R1 E2).ext R2 E3) p3)))

/-! ### built-ins by values -/
structure FnS (X : Cx) (G : Nat → Addr) (f : Value) (r : List SV → Hs → Out SV) : Prop where of ::
  run : ∀ W ρ h H σ us xs Q, RHp (zOf X G) ρ h H → RVs (zOf X G) ρ h.length H us xs → PostE (zOf X G) W ρ h H σ (r us h) Q → ∀ (pins : List (Addr × Obj)) (s : Shared) (σ' : L2.St) (ws : List Value), Inv X pins σ' H s → Vals xs ws → wpAny (model X.prog X.w) X.A (call f ws) (EP X pins σ' Q) X.xe s
instance (X : Cx) (G : Nat → Addr) (f : Value) (r : List SV → Hs → Out SV) : CoeFun (FnS X G f r) fun _ => ∀ W ρ h H σ us xs Q, RHp (zOf X G) ρ h H → RVs (zOf X G) ρ h.length H us xs → PostE (zOf X G) W ρ h H σ (r us h) Q → ∀ (pins : List (Addr × Obj)) (s : Shared) (σ' : L2.St) (ws : List Value), Inv X pins σ' H s → Vals xs ws → wpAny (model X.prog X.w) X.A (call f ws) (EP X pins σ' Q) X.xe s := ⟨FnS.run⟩
theorem fns_of {f : Value} {r : List SV → Hs → Out SV} {q : List V → Hp → VK → Prop} (hc : CallR X f q)
    (k : ∀ W ρ h H σ us xs Q, RHp (zOf X G) ρ h H → RVs (zOf X G) ρ h.length H us xs → PostE (zOf X G) W ρ h H σ (r us h) Q → q xs H Q) : FnS X G f r :=
  .of fun W ρ h H σ us xs Q hR t hP pins s σ' ws I rw => hc pins s σ' H xs ws Q I rw (k W ρ h H σ us xs Q hR t hP)
def callAny (X : Cx) (f : Value) : List V → Hp → VK → Prop := fun xs H Q => ∀ (pins : List (Addr × Obj)) (s : Shared) (σ' : L2.St) (ws : List Value), Inv X pins σ' H s → Vals xs ws → wpAny (model X.prog X.w) X.A (call f ws) (EP X pins σ' Q) X.xe s
theorem callR_any {f : Value} : CallR X f (callAny X f) := fun pins s σ H xs us Q I r h => h pins s σ us I r
def rF (r : List SV → Hs → Out SV) (re : LF) : EF := fun σ h => (re σ h).bnd fun vs h => r vs h
section
variable {x : Str} {p : Pos} {id : String} {r : List SV → Hs → Out SV} {e : Expr}
theorem se_callB (hc : FnS X G (.builtin id) r) (hm : X.mg x = none) (sl : SA X G W (e :: es) re) (hg : Gl X x := by rfl) (hv : bootBuiltins x = some (.builtin id) := by decide +kernel) (hn : x ≠ "__name__" := by decide) (hdb : (x == ("__debug__" : Str)) = false := by decide)
    (he : starEach (e :: es) X.env = (false, eval e X.env) :: starEach es X.env := by rfl) (hpl : (backTo pos (starEach es X.env)).any (·.1) = false := by rfl) : SE X G W (.Call (.Name x p) (e :: es) [] pos) (rF r re) :=
  se_pe (pe_callB callR_any hg hm hv pa_any hn hdb he hpl) fun ρ σs h σ H Q hE hR hP => sl ρ σs h σ H _ hE hR (hP.fst fun vs h1 ρ1 H1 xs _ E1 R1 v1 p1 => hc W ρ1 h1 H1 σ vs xs Q R1 v1 p1)
theorem se_callT (hc : FnS X G (.type id) r) (hm : X.mg x = none) (sl : SA X G W (e :: es) re) (hg : Gl X x := by rfl) (hv : bootBuiltins x = some (.type id) := by decide +kernel) (hn : x ≠ "__name__" := by decide) (hdb : (x == ("__debug__" : Str)) = false := by decide)
    (he : starEach (e :: es) X.env = (false, eval e X.env) :: starEach es X.env := by rfl) (hpl : (backTo pos (starEach es X.env)).any (·.1) = false := by rfl) : SE X G W (.Call (.Name x p) (e :: es) [] pos) (rF r re) :=
  se_pe (pe_callTy callR_any hg hm hv pa_any hn hdb he hpl) fun ρ σs h σ H Q hE hR hP => sl ρ σs h σ H _ hE hR (hP.fst fun vs h1 ρ1 H1 xs _ E1 R1 v1 p1 => hc W ρ1 h1 H1 σ vs xs Q R1 v1 p1)
end
theorem rvs1 {Z : Cz} {ρ : Nat → Addr} {n : Nat} {H : Hp} {u : SV} {xs : List V} (t : RVs Z ρ n H [u] xs) : ∃ x, xs = [x] ∧ RV Z ρ n H u x := by
  cases t with | cons r t => cases t; exact ⟨_, rfl, r⟩
theorem rvs2 {Z : Cz} {ρ : Nat → Addr} {n : Nat} {H : Hp} {u v : SV} {xs : List V} (t : RVs Z ρ n H [u, v] xs) : ∃ x y, xs = [x, y] ∧ RV Z ρ n H u x ∧ RV Z ρ n H v y := by
  cases t with | cons r t => cases t with | cons r2 t => cases t; exact ⟨_, _, rfl, r, r2⟩
/-- len -/
def bLen : List SV → Hs → Out SV
  | [.tup xs], h => .ok (.int xs.length) h
  | [.ref a], h => match h[a]? with
    | some (.lst xs) => .ok (.int xs.length) h
    | _ => .stuck
  | [.scr ns], h => .ok (.int ns.length) h
  | [.str x], h => if x.length ≤ 16777216 then .ok (.int x.length) h else .stuck
  | _, _ => .stuck
theorem fn_len : FnS X G (.builtin "len") bLen := fns_of call_len fun W ρ h H σ us xs Q hR t hP => by
  unfold bLen at hP
  split at hP
  · obtain ⟨x, rfl, r⟩ := rvs1 t
    cases r with | tup q t2 => ?_
    exact ⟨_, _, rfl, .inr ⟨_, q, rfl⟩, by rw [← t2.length]; exact PostG.ret hR (.int _) hP⟩
  · obtain ⟨x, rfl, r⟩ := rvs1 t
    cases r with | ref hi => ?_
    split at hP
    · rename_i e0
      obtain ⟨_, vs, f, t⟩ := hR.lst e0
      exact ⟨_, _, rfl, .inl ⟨_, SqL.of f, rfl⟩, by rw [← t.length]; exact PostG.ret hR (.int _) hP⟩
    · exact hP.elim
  · obtain ⟨x, rfl, r⟩ := rvs1 t
    obtain ⟨p, rfl, q⟩ := scr_sq r
    exact ⟨_, _, rfl, .inl ⟨_, q, rfl⟩, by rw [List.length_map]; exact PostG.ret hR (.int _) hP⟩
  · obtain ⟨x, rfl, r⟩ := rvs1 t
    cases r
    split at hP
    · rename_i hz
      exact ⟨_, _, rfl, ⟨by rw [lim_eq]; exact hz, rfl⟩, PostG.ret hR (.int _) hP⟩
    · exact hP.elim
  · exact hP.elim
def bAbs : List SV → Hs → Out SV
  | [.int i], h => .ok (.int (if i < 0 then -i else i)) h
  | _, _ => .stuck
theorem fn_abs : FnS X G (.builtin "abs") bAbs := fns_of call_abs fun W ρ h H σ us xs Q hR t hP => by
  unfold bAbs at hP
  split at hP
  · obtain ⟨x, rfl, r⟩ := rvs1 t
    cases r; exact ⟨_, rfl, PostG.ret hR (.int _) hP⟩
  · exact hP.elim
def bMax2 : List SV → Hs → Out SV
  | [.int i, .int j], h => .ok (.int (if j > i then j else i)) h
  | _, _ => .stuck
theorem fn_max2 (ok : XOk X W) : FnS X G (.builtin "max") bMax2 := fns_of (call_max2 ok.calm) fun W ρ h H σ us xs Q hR t hP => by
  unfold bMax2 at hP
  split at hP
  · obtain ⟨x, y, rfl, r, r2⟩ := rvs2 t
    cases r; cases r2; exact ⟨_, _, rfl, PostG.ret hR (.int _) hP⟩
  · exact hP.elim
def bMin2 : List SV → Hs → Out SV
  | [.int i, .int j], h => .ok (.int (if j < i then j else i)) h
  | _, _ => .stuck
theorem fn_min2 (ok : XOk X W) : FnS X G (.builtin "min") bMin2 := fns_of (call_min2 ok.calm) fun W ρ h H σ us xs Q hR t hP => by
  unfold bMin2 at hP
  split at hP
  · obtain ⟨x, y, rfl, r, r2⟩ := rvs2 t
    cases r; cases r2; exact ⟨_, _, rfl, PostG.ret hR (.int _) hP⟩
  · exact hP.elim
def bInt : List SV → Hs → Out SV
  | [.int i], h => .ok (.int i) h
  | [.bl k], h => .ok (.int (if k then 1 else 0)) h
  | _, _ => .stuck
theorem fn_int : FnS X G (.type "int") bInt := fns_of call_int1 fun W ρ h H σ us xs Q hR t hP => by
  unfold bInt at hP
  split at hP
  · obtain ⟨x, rfl, r⟩ := rvs1 t
    cases r; exact .inl ⟨_, rfl, PostG.ret hR (.int _) hP⟩
  · obtain ⟨x, rfl, r⟩ := rvs1 t
    cases r; exact .inr ⟨_, rfl, PostG.ret hR (.int _) hP⟩
  · exact hP.elim
/-- tuple(list or tuple) -/
def bTuple : List SV → Hs → Out SV
  | [.tup xs], h => .ok (.tup xs) h
  | [.ref a], h => match h[a]? with
    | some (.lst xs) => .ok (.tup xs) h
    | _ => .stuck
  | _, _ => .stuck
theorem fn_tuple : FnS X G (.type "tuple") bTuple := fns_of call_tuple_of fun W ρ h H σ us xs Q hR t hP => by
  unfold bTuple at hP
  split at hP
  · obtain ⟨x, rfl, r⟩ := rvs1 t
    cases r with | tup q t2 => ?_
    exact ⟨_, _, rfl, .inr ⟨q, PostG.ret hR (.tup q t2) hP⟩⟩
  · obtain ⟨x, rfl, r⟩ := rvs1 t
    cases r with | ref hi => ?_
    split at hP
    · rename_i e0
      obtain ⟨_, vs, f, t⟩ := hR.lst e0
      exact ⟨_, _, rfl, .inl ⟨SqL.of f, fun p hp => new_tup hR hp t hP⟩⟩
    · exact hP.elim
  · exact hP.elim
/-- list(list or tuple) -/
def bList : List SV → Hs → Out SV
  | [.tup xs], h => .ok (.ref h.length) (h ++ [.lst xs])
  | [.ref a], h => match h[a]? with
    | some (.lst xs) => .ok (.ref h.length) (h ++ [.lst xs])
    | _ => .stuck
  | _, _ => .stuck
theorem fn_list : FnS X G (.type "list") bList := fns_of call_list_of fun W ρ h H σ us xs Q hR t hP => by
  unfold bList at hP
  split at hP
  · obtain ⟨x, rfl, r⟩ := rvs1 t
    cases r with | tup q t2 => ?_
    exact ⟨_, _, rfl, .inr q, fun p hp => new_lst hR hp t2 hP⟩
  · obtain ⟨x, rfl, r⟩ := rvs1 t
    cases r with | ref hi => ?_
    split at hP
    · rename_i e0
      obtain ⟨_, vs, f, t⟩ := hR.lst e0
      exact ⟨_, _, rfl, .inl (SqL.of f), fun p hp => new_lst hR hp t hP⟩
    · exact hP.elim
  · exact hP.elim
/-- all, any of a list of bools -/
def blsS : List SV → Option (List Bool)
  | [] => some []
  | .bl b :: r => (blsS r).map (b :: ·)
  | _ :: _ => none
theorem blsS_rv {Z : Cz} {ρ : Nat → Addr} {n : Nat} {H : Hp} : ∀ {xs : List SV} {vs : List V} {bs : List Bool}, RVs Z ρ n H xs vs → blsS xs = some bs → vs = bs.map V.bl
  | _, _, bs, .nil, e => by simp [blsS] at e; subst e; rfl
  | _, _, bs, .cons r t, e => by
    cases r <;> simp only [blsS, reduceCtorEq, Option.map_eq_some_iff] at e
    obtain ⟨b2, e1, rfl⟩ := e
    rw [blsS_rv t e1]; rfl
def bAll : List SV → Hs → Out SV
  | [.ref a], h => match h[a]? with
    | some (.lst xs) => (match blsS xs with
      | some bs => .ok (.bl (bs.all id)) h
      | none => .stuck)
    | _ => .stuck
  | _, _ => .stuck
def bAny : List SV → Hs → Out SV
  | [.ref a], h => match h[a]? with
    | some (.lst xs) => (match blsS xs with
      | some bs => .ok (.bl (bs.any id)) h
      | none => .stuck)
    | _ => .stuck
  | _, _ => .stuck
theorem fn_all (ok : XOk X W) : FnS X G (.builtin "all") bAll := fns_of (cr_all ok.calm) fun W ρ h H σ us xs Q hR t hP => by
  unfold bAll at hP
  split at hP
  · obtain ⟨x, rfl, r⟩ := rvs1 t
    cases r with | ref hi => ?_
    split at hP
    · rename_i e0
      obtain ⟨_, vs, f, t⟩ := hR.lst e0
      split at hP
      · rename_i e1
        have := blsS_rv t e1
        subst this
        exact ⟨_, _, rfl, SqL.of f, PostG.ret hR (.bl _) hP⟩
      · exact hP.elim
    · exact hP.elim
  · exact hP.elim
theorem fn_any (ok : XOk X W) : FnS X G (.builtin "any") bAny := fns_of (cr_any ok.calm) fun W ρ h H σ us xs Q hR t hP => by
  unfold bAny at hP
  split at hP
  · obtain ⟨x, rfl, r⟩ := rvs1 t
    cases r with | ref hi => ?_
    split at hP
    · rename_i e0
      obtain ⟨_, vs, f, t⟩ := hR.lst e0
      split at hP
      · rename_i e1
        have := blsS_rv t e1
        subst this
        exact ⟨_, _, rfl, SqL.of f, PostG.ret hR (.bl _) hP⟩
      · exact hP.elim
    · exact hP.elim
  · exact hP.elim
/-- repr -/
theorem call_repr_D (hu : X.A.units + 200 < cLine) (hg : X.A.guards = some []) : CallR X (.builtin "repr") (fun xs H Q => ∃ x d, xs = [x] ∧ Dp X.K H x d ∧ d.showable = true ∧ d.hasDict = false ∧ d.depth ≤ 64 ∧ d.shown.length ≤ sizeLine ∧ Q (.str d.shown) H) := by
  intro pins s σ H xs us Q I r q
  obtain ⟨x, d, rfl, hd, hs, hnd, hdp, hz, q⟩ := q
  obtain ⟨u, rfl, ru⟩ := vals1 r
  cases hd with
  | non => cases ru; exact PySem.P.repr_of_none ⟨.str _, H, I.tok _, ⟨_, rfl⟩, q⟩
  | bl b => cases ru; exact PySem.P.repr_of_bool ⟨.str _, H, I.tok _, ⟨_, rfl⟩, q⟩
  | int i => obtain ⟨t, rfl⟩ := ru; exact PySem.P.repr_of_int (by simpa [PyData.showable] using hs) ⟨.str _, H, I.tok _, ⟨_, rfl⟩, q⟩
  | str z => obtain ⟨t, rfl⟩ := ru; exact PySem.P.repr_of_str ⟨.str _, H, I.tok _, ⟨_, rfl⟩, q⟩ hz
  | @lst a xs ds h1 h2 =>
    obtain ⟨as, r1⟩ := Dp.reads I (.list ds) (.ref a) u (.lst h1 h2) ru
    cases ru
    exact repr_of_reads' r1 hs (PyData.noDict_hsm hnd) hg (by omega) (fun _ _ e => e) (fun h' u tk hk => ⟨.str _, H, I.kept hk, ⟨_, rfl⟩, q⟩) hz
  | @tup a xs ds h1 h2 =>
    obtain ⟨as, r1⟩ := Dp.reads I (.tuple ds) (.ref a) u (.tup h1 h2) ru
    cases ru
    exact repr_of_reads' r1 hs (PyData.noDict_hsm hnd) hg (by omega) (fun _ _ e => e) (fun h' u tk hk => ⟨.str _, H, I.kept hk, ⟨_, rfl⟩, q⟩) hz
def bRepr : List SV → Hs → Out SV
  | [u], h => match toD 30 h u with
    | some d => if d.showable = true ∧ d.hasDict = false ∧ d.depth ≤ 64 ∧ d.shown.length ≤ 16777216 then .ok (.str d.shown) h else .stuck
    | none => .stuck
  | _, _ => .stuck
theorem fn_repr (ok : XOs X W) : FnS X G (.builtin "repr") bRepr := fns_of (call_repr_D ok.hu ok.gd) fun W ρ h H σ us xs Q hR t hP => by
  unfold bRepr at hP
  split at hP
  · obtain ⟨x, rfl, r⟩ := rvs1 t
    split at hP
    · rename_i d e
      split at hP
      · rename_i hz
        exact ⟨x, d, rfl, toD_dp hR 30 r e, hz.1, hz.2.1, hz.2.2.1, by rw [lim_eq]; exact hz.2.2.2, PostG.ret hR (.str _) hP⟩
      · exact hP.elim
    · exact hP.elim
  · exact hP.elim
end
end Pz

set_option Elab.async false
set_option linter.all false
set_option maxRecDepth 100000
set_option maxHeartbeats 1000000
namespace Pz
open PySem PySem.Spec L2

/-! ### statements -/
inductive OS where
  | nx (σ : SEnv) (h : Hs) | rt (v : SV) (h : Hs) | bk (σ : SEnv) (h : Hs) | ct (σ : SEnv) (h : Hs)
  | exc (c : Nat) (fs : List (Str × SV)) (σ : SEnv) (h : Hs) | stuck
abbrev SF := SEnv → Hs → OS
/-- an expression's value to a statement -/
def Out.st {α : Type} (r : Out α) (σ : SEnv) (f : α → Hs → OS) : OS := match r with
  | .ok v h => f v h
  | .exc c fs h => .exc c fs σ h
  | .stuck => .stuck
@[simp] theorem Out.st_ok {α : Type} (a : α) (h : Hs) (σ : SEnv) (f : α → Hs → OS) : (Out.ok a h).st σ f = f a h := rfl
@[simp] theorem Out.st_exc {α : Type} (c : Nat) (fs : List (Str × SV)) (h : Hs) (σ : SEnv) (f : α → Hs → OS) : (Out.exc c fs h : Out α).st σ f = .exc c fs σ h := rfl
@[simp] theorem Out.st_stuck {α : Type} (σ : SEnv) (f : α → Hs → OS) : (Out.stuck : Out α).st σ f = .stuck := rfl
def OS.seq (r : OS) (f : SF) : OS := match r with
  | .nx σ h => f σ h
  | o => o
@[simp] theorem OS.seq_nx (σ : SEnv) (h : Hs) (f : SF) : (OS.nx σ h).seq f = f σ h := rfl
@[simp] theorem OS.seq_rt (v : SV) (h : Hs) (f : SF) : (OS.rt v h).seq f = .rt v h := rfl
@[simp] theorem OS.seq_bk (σ : SEnv) (h : Hs) (f : SF) : (OS.bk σ h).seq f = .bk σ h := rfl
@[simp] theorem OS.seq_ct (σ : SEnv) (h : Hs) (f : SF) : (OS.ct σ h).seq f = .ct σ h := rfl
@[simp] theorem OS.seq_exc (c : Nat) (fs : List (Str × SV)) (σ : SEnv) (h : Hs) (f : SF) : (OS.exc c fs σ h).seq f = .exc c fs σ h := rfl
@[simp] theorem OS.seq_stuck (f : SF) : OS.stuck.seq f = .stuck := rfl
section
variable (Z : Cz) (W : WX) (ρ : Nat → Addr) (h : Hs) (H : Hp)
def PEnv (σs : SEnv) (h' : Hs) (P : L2.St → Hp → Prop) : Prop := ∀ ρ' H' σ', Gro ρ h H ρ' h' H' → RHp Z ρ' h' H' → REnv Z ρ' h'.length H' σs σ' → P σ' H'
def PVal (v : SV) (h' : Hs) (P : VK) : Prop := ∀ ρ' H' x, Gro ρ h H ρ' h' H' → RHp Z ρ' h' H' → RV Z ρ' h'.length H' v x → P x H'
def PostS (r : OS) (D : Ends) : Prop := match r with
  | .nx σs h' => PEnv Z ρ h H σs h' D.nx
  | .rt v h' => PVal Z ρ h H v h' D.rt
  | .bk σs h' => PEnv Z ρ h H σs h' D.bk
  | .ct σs h' => PEnv Z ρ h H σs h' D.ct
  | .exc c fs σs h' => ∀ σ' ρ' H' d xs, Gro ρ h H ρ' h' H' → RHp Z ρ' h' H' → REnv Z ρ' h'.length H' σs σ' → XdA H ρ' h' H' d xs → RF Z ρ' h'.length H' fs xs → W (.ref (Z.G c)) (some d) σ' H'
  | .stuck => False
end
section
variable {Z : Cz} {W : WX} {ρ ρ' : Nat → Addr} {h h' : Hs} {H H' : Hp}
theorem PEnv.step {σs : SEnv} {h2 : Hs} {P : L2.St → Hp → Prop} (R : RHp Z ρ' h' H') (E : Gro ρ h H ρ' h' H') (p : PEnv Z ρ h H σs h2 P) : PEnv Z ρ' h' H' σs h2 P := fun ρ2 H2 σ2 E2 R2 q => p ρ2 H2 σ2 (E.trans R E2) R2 q
theorem PVal.step {v : SV} {h2 : Hs} {P : VK} (R : RHp Z ρ' h' H') (E : Gro ρ h H ρ' h' H') (p : PVal Z ρ h H v h2 P) : PVal Z ρ' h' H' v h2 P := fun ρ2 H2 σ2 E2 R2 q => p ρ2 H2 σ2 (E.trans R E2) R2 q
theorem PostS.step {r : OS} {D : Ends} (R : RHp Z ρ' h' H') (E : Gro ρ h H ρ' h' H') (p : PostS Z W ρ h H r D) : PostS Z W ρ' h' H' r D := by
  cases r with
  | nx σ h2 => exact PEnv.step R E p
  | rt v h2 => exact PVal.step R E p
  | bk σ h2 => exact PEnv.step R E p
  | ct σ h2 => exact PEnv.step R E p
  | exc c fs σ h2 => exact fun σ' ρ2 H2 d xs E2 R2 q e r => p σ' ρ2 H2 d xs (E.trans R E2) R2 q ⟨e.at', E.none R e.new, e.off⟩ r
  | stuck => exact p
/-- behind an expression -/
theorem PostS.expr {α β : Type} {rel : (Nat → Addr) → Nat → Hp → α → β → Prop} {r : Out α} {σs : SEnv} {σ : L2.St} {f : α → Hs → OS} {D : Ends} {Q : β → Hp → Prop} (hE : REnv Z ρ h.length H σs σ) (hR : RHp Z ρ h H) (p : PostS Z W ρ h H (r.st σs f) D)
    (k : ∀ v h1 ρ1 H1 x, r = .ok v h1 → Gro ρ h H ρ1 h1 H1 → RHp Z ρ1 h1 H1 → rel ρ1 h1.length H1 v x → PostS Z W ρ1 h1 H1 (f v h1) D → Q x H1) : PostG Z W ρ h H σ rel r Q := by
  cases r with
  | ok v h1 => exact fun ρ1 H1 x E R q => k v h1 ρ1 H1 x rfl E R q (PostS.step R E p)
  | exc c fs h1 => exact fun ρ1 H1 d xs E R e q => p σ ρ1 H1 d xs E R (hE.ext hR E) e q
  | stuck => exact p
theorem PostS.next {σs : SEnv} {σ : L2.St} {D : Ends} (hE : REnv Z ρ h.length H σs σ) (hR : RHp Z ρ h H) (p : PostS Z W ρ h H (.nx σs h) D) : D.nx σ H := p ρ H σ Gro.refl hR hE
end
section
variable (X : Cx) (G : Nat → Addr) (W : WX)
structure SS (st : Stmt) (r : SF) : Prop where of ::
  run : ∀ ρ σs h σ H D, REnv (zOf X G) ρ h.length H σs σ → RHp (zOf X G) ρ h H → PostS (zOf X G) W ρ h H (r σs h) D → tAnyS X st D σ H
instance (st : Stmt) (r : SF) : CoeFun (SS X G W st r) fun _ => ∀ ρ σs h σ H D, REnv (zOf X G) ρ h.length H σs σ → RHp (zOf X G) ρ h H → PostS (zOf X G) W ρ h H (r σs h) D → tAnyS X st D σ H := ⟨SS.run⟩
structure SSs (st : List Stmt) (r : SF) : Prop where of ::
  run : ∀ ρ σs h σ H D, REnv (zOf X G) ρ h.length H σs σ → RHp (zOf X G) ρ h H → PostS (zOf X G) W ρ h H (r σs h) D → tAnySs X st D σ H
instance (st : List Stmt) (r : SF) : CoeFun (SSs X G W st r) fun _ => ∀ ρ σs h σ H D, REnv (zOf X G) ρ h.length H σs σ → RHp (zOf X G) ρ h H → PostS (zOf X G) W ρ h H (r σs h) D → tAnySs X st D σ H := ⟨SSs.run⟩
end
section
variable {X : Cx} {G : Nat → Addr} {W : WX} {pos : Pos} {a b c e : Expr} {ra rb rc : EF} {tc : SEnv → Hs → Out Bool} {st : Stmt} {sts : List Stmt} {r1 r2 : SF}
def sNil : SF := fun σ h => .nx σ h
def sSeq (r1 r2 : SF) : SF := fun σ h => (r1 σ h).seq r2
theorem ss_nil : SSs X G W [] sNil := .of fun ρ σs h σ H D hE hR hP => any_pss pss_nil (PostS.next hE hR hP)
theorem seq_post {Z : Cz} {ρ : Nat → Addr} {h : Hs} {H : Hp} {r : OS} {D : Ends} {P : L2.St → Hp → Prop} (p : PostS Z W ρ h H (r.seq r2) D)
    (k : ∀ σs h1 ρ1 H1 σ, Gro ρ h H ρ1 h1 H1 → RHp Z ρ1 h1 H1 → REnv Z ρ1 h1.length H1 σs σ → PostS Z W ρ1 h1 H1 (r2 σs h1) D → P σ H1) : PostS Z W ρ h H r { D with nx := P } := by
  cases r with
  | nx σ h1 => exact fun ρ1 H1 σ1 E R q => k σ h1 ρ1 H1 σ1 E R q (PostS.step R E p)
  | rt v h1 => exact p
  | bk σ h1 => exact p
  | ct σ h1 => exact p
  | exc c fs σ h1 => exact p
  | stuck => exact p
theorem ss_cons (s1 : SS X G W st r1) (s2 : SSs X G W sts r2) : SSs X G W (st :: sts) (sSeq r1 r2) := .of fun ρ σs h σ H D hE hR hP =>
  any_pss (pss_cons ps_any pss_any) (s1 ρ σs h σ H _ hE hR (seq_post hP fun σs1 h1 ρ1 H1 σ1 E1 R1 q1 p1 => s2 ρ1 σs1 h1 σ1 H1 D q1 R1 p1))
theorem ss_one (s1 : SS X G W st r1) : SSs X G W [st] r1 := .of fun ρ σs h σ H D hE hR hP => any_pss (pss_one ps_any) (s1 ρ σs h σ H D hE hR hP)
theorem ss_pass : SS X G W (.Pass pos) sNil := .of fun ρ σs h σ H D hE hR hP => any_ps ps_pass (PostS.next hE hR hP)
def sBreak : SF := fun σ h => .bk σ h
def sCont : SF := fun σ h => .ct σ h
theorem ss_break : SS X G W (.Break pos) sBreak := .of fun ρ σs h σ H D hE hR hP => any_ps ps_break (hP ρ H σ Gro.refl hR hE)
theorem ss_continue : SS X G W (.Continue pos) sCont := .of fun ρ σs h σ H D hE hR hP => any_ps ps_continue (hP ρ H σ Gro.refl hR hE)
def sRet (ra : EF) : SF := fun σ h => (ra σ h).st σ fun v h => .rt v h
theorem ss_ret (s : SE X G W e ra) : SS X G W (.Return (some e) pos) (sRet ra) := .of fun ρ σs h σ H D hE hR hP =>
  any_ps (ps_ret pe_any) (s ρ σs h σ H _ hE hR (PostS.expr hE hR hP fun v h1 ρ1 H1 x _ E1 R1 v1 p1 => p1 ρ1 H1 x Gro.refl R1 v1))
def sRetN : SF := fun _ h => .rt .non h
theorem ss_retN : SS X G W (.Return none pos) sRetN := .of fun ρ σs h σ H D hE hR hP => any_ps ps_retN (hP ρ H .non Gro.refl hR .non)
def sExpr (ra : EF) : SF := fun σ h => (ra σ h).st σ fun _ h => .nx σ h
theorem ss_expr (s : SE X G W e ra) (hs : swapsWith e none pos.line X.env = pure false := by rfl) : SS X G W (.Expr e pos) (sExpr ra) := .of fun ρ σs h σ H D hE hR hP =>
  any_ps (ps_expr pe_any hs) (s ρ σs h σ H _ hE hR (PostS.expr hE hR hP fun v h1 ρ1 H1 x _ E1 R1 v1 p1 => p1 ρ1 H1 σ Gro.refl R1 (hE.ext hR E1)))
def sIf (t : SEnv → Hs → Out Bool) (r1 r2 : SF) : SF := fun σ h => (t σ h).st σ fun k h => if k = true then r1 σ h else r2 σ h
theorem ss_if {as bs : List Stmt} (s : ST X G W c tc) (s1 : SSs X G W as r1) (s2 : SSs X G W bs r2) : SS X G W (.If c as bs pos) (sIf tc r1 r2) := .of fun ρ σs h σ H D hE hR hP =>
  any_ps (ps_if pt_any pss_any pss_any) (s ρ σs h σ H _ hE hR (PostS.expr hE hR hP fun k h1 ρ1 H1 k' _ E1 R1 e p1 => by
    have e' : k = k' := e
    subst e'
    cases k with
    | true => rw [if_pos rfl] at p1 ⊢; exact s1 ρ1 σs h1 σ H1 D (hE.ext hR E1) R1 p1
    | false => rw [if_neg Bool.false_ne_true] at p1 ⊢; exact s2 ρ1 σs h1 σ H1 D (hE.ext hR E1) R1 p1))

/-! ### targets -/
abbrev GF := SV → SEnv → Option SEnv
abbrev GsF := List SV → SEnv → Option SEnv
def tAnyG (X : Cx) (tg : Expr) : TG := fun v σ H Q => ∀ (pins : List (Addr × Obj)) (s : Shared) (u : Value), Inv X pins σ H s → RelV v u → wpAny (model X.prog X.w) X.A (assign tg X.env u) (fun _ s' => ∃ σ' H', Inv X pins σ' H' s' ∧ Q σ' H') X.xe s
def tAnyGs (X : Cx) (tgs : List Expr) : TGs := fun vs σ H Q => ∀ (pins : List (Addr × Obj)) (s : Shared) (us : List Value), Inv X pins σ H s → Vals vs us → wpAny (model X.prog X.w) X.A (assignInOrder ((assignEach tgs X.env).map (·.2)) us) (fun _ s' => ∃ σ' H', Inv X pins σ' H' s' ∧ Q σ' H') X.xe s
theorem pg_any {tg : Expr} : PG X tg (tAnyG X tg) := ⟨fun pins s σ H v u Q I r h => h pins s u I r⟩
theorem pgs_any {tgs : List Expr} : PGs X tgs (tAnyGs X tgs) := ⟨fun pins s σ H v u Q I r h => h pins s u I r⟩
/-- a target: what it stores; it changes no object -/
def WSame (is : List Nat) (σ σ' : L2.St) : Prop := ∀ vs : List Nat, (∀ i ∈ is, i ∈ vs) → wipe σ' vs = wipe σ vs
structure SG (X : Cx) (G : Nat → Addr) (tg : Expr) (g : GF) (is : List Nat) : Prop where of ::
  run : ∀ ρ v σs σs' n σ H x P, REnv (zOf X G) ρ n H σs σ → RV (zOf X G) ρ n H v x → g v σs = some σs' → (∀ σ', WSame is σ σ' → REnv (zOf X G) ρ n H σs' σ' → P σ' H) → tAnyG X tg x σ H P
instance (X : Cx) (G : Nat → Addr) (tg : Expr) (g : GF) (is : List Nat) : CoeFun (SG X G tg g is) fun _ => ∀ ρ v σs σs' n σ H x P, REnv (zOf X G) ρ n H σs σ → RV (zOf X G) ρ n H v x → g v σs = some σs' → (∀ σ', WSame is σ σ' → REnv (zOf X G) ρ n H σs' σ' → P σ' H) → tAnyG X tg x σ H P := ⟨SG.run⟩
structure SGs (X : Cx) (G : Nat → Addr) (tgs : List Expr) (g : GsF) (is : List Nat) : Prop where of ::
  run : ∀ ρ vs σs σs' n σ H xs P, REnv (zOf X G) ρ n H σs σ → RVs (zOf X G) ρ n H vs xs → g vs σs = some σs' → (∀ σ', WSame is σ σ' → REnv (zOf X G) ρ n H σs' σ' → P σ' H) → tAnyGs X tgs xs σ H P
instance (X : Cx) (G : Nat → Addr) (tgs : List Expr) (g : GsF) (is : List Nat) : CoeFun (SGs X G tgs g is) fun _ => ∀ ρ vs σs σs' n σ H xs P, REnv (zOf X G) ρ n H σs σ → RVs (zOf X G) ρ n H vs xs → g vs σs = some σs' → (∀ σ', WSame is σ σ' → REnv (zOf X G) ρ n H σs' σ' → P σ' H) → tAnyGs X tgs xs σ H P := ⟨SGs.run⟩
def gNm (i : Nat) : GF := fun v σ => some (σ.set i (some v))
def gsN : GsF := fun vs σ => match vs with
  | [] => some σ
  | _ => none
def gsC (g : GF) (gs : GsF) : GsF := fun vs σ => match vs with
  | v :: r => (g v σ).bind fun σ' => gs r σ'
  | [] => none
def gTp (n : Nat) (gs : GsF) : GF := fun v σ => match v with
  | .tup xs => if xs.length = n then gs xs σ else none
  | _ => none
theorem renv_set {Z : Cz} {ρ : Nat → Addr} {n : Nat} {H : Hp} {σs : SEnv} {σ : L2.St} {v : SV} {x : V} (hE : REnv Z ρ n H σs σ) (r : RV Z ρ n H v x) (i : Nat) : REnv Z ρ n H (σs.set i (some v)) (σ.set i (some x)) where
  len := by simp [hE.len]
  val := fun j y e => by
    by_cases hj : i = j
    · subst hj
      have hi : i < σs.length := by
        have := (List.getElem?_eq_some_iff.mp e).1
        simpa using this
      rw [List.getElem?_set_self hi] at e
      cases e
      exact ⟨x, List.getElem?_set_self (by rw [← hE.len]; exact hi), r⟩
    · rw [List.getElem?_set_ne hj] at e
      obtain ⟨u, e1, r1⟩ := hE.val j y e
      exact ⟨u, by rw [List.getElem?_set_ne hj]; exact e1, r1⟩
theorem wipe_set {i : Nat} {o : Option V} : ∀ (vs : List Nat) (σ : L2.St), i ∈ vs → wipe (σ.set i o) vs = wipe σ vs
  | [], _, h => nomatch h
  | v :: vs, σ, h => by
    unfold wipe
    by_cases hi : i ∈ vs
    · rw [wipe_set vs σ hi]
    · have e : i = v := by rcases List.mem_cons.mp h with e | e; exact e; exact absurd e hi
      subst e
      have comm : ∀ (ws : List Nat), i ∉ ws → ∀ σ : L2.St, wipe (σ.set i o) ws = (wipe σ ws).set i o := by
        intro ws
        induction ws with
        | nil => intro _ σ; rfl
        | cons w ws ih =>
          intro hn σ
          unfold wipe
          rw [ih (fun z => hn (List.mem_cons_of_mem _ z)) σ, List.set_comm _ _ (fun z => hn (by rw [z]; exact List.mem_cons_self))]
      rw [comm vs hi σ, List.set_set]
theorem wsame_set {σ : L2.St} {o : Option V} (i : Nat) : WSame [i] σ (σ.set i o) := fun vs h => wipe_set vs σ (h i (by simp))
theorem WSame.refl {σ : L2.St} : WSame [] σ σ := fun _ _ => rfl
theorem WSame.app {is js : List Nat} {σ σ1 σ2 : L2.St} (a : WSame is σ σ1) (b : WSame js σ1 σ2) : WSame (is ++ js) σ σ2 := fun vs h => (b vs fun i hi => h i (by simp [hi])).trans (a vs fun i hi => h i (by simp [hi]))
theorem sg_name (ok : XOs X W) (i : Nat) {x : Str} (hi : X.N[i]? = some x := by rfl) (hx : Loc X.env.scope x := by first | exact .inl rfl | exact .inr rfl) (hf : X.fn x = true ∨ X.env.scope.names.lookup x = some .local := by first | exact .inl rfl | exact .inr rfl) : SG X G (.Name x pos) (gNm i) [i] :=
  .of fun ρ v σs σs' n σ H x P hE r e k pins s u I ru => (pg_name ok.nd hi hx hf).run pins s σ H x u P I ru (by cases e; exact k _ (wsame_set i) (renv_set hE r i))
theorem sgs_nil : SGs X G [] gsN [] := .of fun ρ vs σs σs' n σ H xs P hE r e k pins s u I ru => pgs_nil.run pins s σ H xs u P I ru (by
  unfold gsN at e
  split at e
  · cases r; cases e; exact ⟨rfl, k _ WSame.refl hE⟩
  · cases e)
theorem sgs_cons {tg : Expr} {tgs : List Expr} {g : GF} {gs : GsF} {is js : List Nat} (s1 : SG X G tg g is) (s2 : SGs X G tgs gs js) (hs : (assignEach (tg :: tgs) X.env).map (·.2) = assign tg X.env :: (assignEach tgs X.env).map (·.2) := by rfl) : SGs X G (tg :: tgs) (gsC g gs) (is ++ js) :=
  .of fun ρ vs σs σs' n σ H xs P hE r e k pins s u I ru => (pgs_cons pg_any pgs_any hs).run pins s σ H xs u P I ru (by
    unfold gsC at e
    split at e
    · cases r with | cons r1 t1 => ?_
      rw [Option.bind_eq_some_iff] at e
      obtain ⟨σ1, e1, e2⟩ := e
      exact ⟨_, _, rfl, s1 ρ _ σs σ1 n σ H _ _ hE r1 e1 fun σ' w1 hE' => s2 ρ _ σ1 σs' n σ' H _ P hE' t1 e2 fun σ2 w2 => k σ2 (w1.app w2)⟩
    · cases e)
theorem sg_tup (ok : XOk X W) {es : List Expr} {k : Nat} {gs : GsF} {n : Nat} {is : List Nat} (s2 : SGs X G es gs is) (hn : (assignEach es X.env).length = n := by rfl) (hst : (assignEach es X.env).findIdx? (·.1) = none := by rfl) : SG X G (.Tuple es k pos) (gTp n gs) is :=
  .of fun ρ v σs σs' m σ H x P hE r e k pins s u I ru => (pg_tup ok.calm pgs_any hn hst).run pins s σ H x u P I ru (by
    unfold gTp at e
    split at e
    · cases r with | tup q t => ?_
      split at e
      · rename_i hz
        exact ⟨_, _, rfl, q, by rw [← t.length]; exact hz, s2 ρ _ σs σs' m σ H _ P hE t e k⟩
      · cases e
    · cases e)
def sAsg (ra : EF) (g : GF) : SF := fun σ h => (ra σ h).st σ fun v h => match g v σ with
  | some σ' => .nx σ' h
  | none => .stuck
theorem asg_post {σs : SEnv} {ρ : Nat → Addr} {h : Hs} {H : Hp} {σ : L2.St} {D : Ends} {g : GF} {tg : Expr} {is : List Nat} (hE : REnv (zOf X G) ρ h.length H σs σ) (hR : RHp (zOf X G) ρ h H) (sg : SG X G tg g is) (hP : PostS (zOf X G) W ρ h H (sAsg ra g σs h) D) :
    PostE (zOf X G) W ρ h H σ (ra σs h) (fun x H1 => tAnyG X tg x σ H1 D.nx) := PostS.expr hE hR hP fun v h1 ρ1 H1 x _ E1 R1 v1 p1 => by
  split at p1
  · rename_i σ' e
    exact sg ρ1 v σs σ' _ σ H1 x D.nx (hE.ext hR E1) v1 e fun σ2 _ q => p1 ρ1 H1 σ2 Gro.refl R1 q
  · exact p1.elim
theorem ss_asg {tg : Expr} {g : GF} {is : List Nat} (s : SE X G W e ra) (sg : SG X G tg g is) (hs : swapsWithSole [tg] e pos.line X.env = pure false := by rfl) (hw : swappedStores [tg] e X.env = pure none := by rfl)
    (h1 : (assignEach [tg] X.env).map (·.2) = [assign tg X.env] := by rfl) : SS X G W (.Assign [tg] e pos) (sAsg ra g) := .of fun ρ σs h σ H D hE hR hP =>
  any_ps (ps_asg pe_any pg_any hs hw h1) (s ρ σs h σ H _ hE hR (asg_post hE hR sg hP))
/-- x op= e -/
def sAug (i : Nat) (f : SV → SV → Hs → Out SV) (rb : EF) : SF := fun σ h => match σ[i]? with
  | some (some x) => (rb σ h).st σ fun y h => (f x y h).st σ fun z h => .nx (σ.set i (some z)) h
  | _ => .stuck
theorem ss_aug (ok : XOs X W) (i : Nat) {x : Str} {op : Operator} {f : SV → SV → Hs → Out SV} {p2 : Pos} (s : SE X G W e rb) (ho : OpS X G W (inplaceOp op) f) (hi : X.N[i]? = some x := by rfl) (hx : Loc X.env.scope x := by first | exact .inl rfl | exact .inr rfl)
    (hf : X.fn x = true ∨ X.env.scope.names.lookup x = some .local := by first | exact .inl rfl | exact .inr rfl) : SS X G W (.AugAssign (.Name x p2) op e pos) (sAug i f rb) := .of fun ρ σs h σ H D hE hR hP => by
  unfold sAug at hP
  split at hP
  · rename_i v e1
    obtain ⟨y, e2, r2⟩ := hE.val i v e1
    refine any_ps (ps_aug (ti := OpB X (inplaceOp op)) ok.nd hi hx pe_any (fun pins s σ H x y v u Q I r1 r2 q => q pins s σ v u I r1 r2) hf) ?_
    refine ⟨y, e2, s ρ σs h σ H _ hE hR (PostS.expr hE hR hP fun w h1 ρ1 H1 z _ E1 R1 v1 p1 => ?_)⟩
    refine ho ρ1 h1 H1 σ v w y z _ R1 (r2.ext hR E1) v1 (PostS.expr (hE.ext hR E1) R1 p1 fun t h2 ρ2 H2 t' _ E2 R2 v2 p2 => ?_)
    exact p2 ρ2 H2 _ Gro.refl R2 (renv_set ((hE.ext hR E1).ext R1 E2) v2 i)
  · exact hP.elim

/-! ### what is left behind a turn -/
def cutE (n : Nat) : SEnv → SEnv → SEnv
  | _, [] => []
  | [], _ :: σ => none :: cutE n [] σ
  | a :: σ0, b :: σ => (match a, b with
    | some _, some v => if v.mx ≤ n then some v else none
    | _, _ => none) :: cutE n σ0 σ
theorem cutE_len (n : Nat) : ∀ σ0 σ : SEnv, (cutE n σ0 σ).length = σ.length
  | _, [] => by unfold cutE; rfl
  | [], _ :: σ => by unfold cutE; simp [cutE_len n [] σ]
  | _ :: σ0, _ :: σ => by unfold cutE; simp [cutE_len n σ0 σ]
theorem cutE_val (n : Nat) : ∀ (σ0 σ : SEnv) (j : Nat) (x : SV), (cutE n σ0 σ)[j]? = some (some x) → σ[j]? = some (some x) ∧ x.mx ≤ n
  | _, [], j, x, e => by unfold cutE at e; simp at e
  | [], b :: σ, 0, x, e => by unfold cutE at e; simp at e
  | [], b :: σ, j + 1, x, e => by
    unfold cutE at e
    have := cutE_val n [] σ j x (by simpa using e)
    simpa using this
  | a :: σ0, b :: σ, 0, x, e => by
    unfold cutE at e
    simp only [List.getElem?_cons_zero, Option.some.injEq] at e
    split at e
    · split at e
      · rename_i hz; cases e; exact ⟨rfl, hz⟩
      · cases e
    · cases e
  | a :: σ0, b :: σ, j + 1, x, e => by
    unfold cutE at e
    have := cutE_val n σ0 σ j x (by simpa using e)
    simpa using this
def gcS (σ0 : SEnv) (h0 : Hs) (σ : SEnv) (h : Hs) : SEnv × Hs :=
  if h.take h0.length = h0 ∨ (h.take h0.length).all (fun o => decide (o.mx ≤ h0.length)) = true then (cutE h0.length σ0 σ, h.take h0.length) else (σ, h)
section
variable {Z : Cz} {ρ0 ρ : Nat → Addr} {h0 h : Hs} {H0 H : Hp}
theorem cut_ok (R0 : RHp Z ρ0 h0 H0) (R : RHp Z ρ h H) (E : Gro ρ0 h0 H0 ρ h H) (c : h.take h0.length = h0 ∨ (h.take h0.length).all (fun o => decide (o.mx ≤ h0.length)) = true) : RHp Z ρ (h.take h0.length) H := by
  refine R.cut E.len fun o ho => ?_
  rcases c with c | c
  · rw [c] at ho
    obtain ⟨i, hi⟩ := List.mem_iff_getElem?.mp ho
    exact (R0.ob i o hi).mx_le
  · exact of_decide_eq_true (List.all_eq_true.mp c o ho)
theorem gc_ok {σ0 σs : SEnv} {σ : L2.St} (R0 : RHp Z ρ0 h0 H0) (R : RHp Z ρ h H) (E : Gro ρ0 h0 H0 ρ h H) (q : REnv Z ρ h.length H σs σ) :
    RHp Z ρ (gcS σ0 h0 σs h).2 H ∧ REnv Z ρ (gcS σ0 h0 σs h).2.length H (gcS σ0 h0 σs h).1 σ ∧ Gro ρ0 h0 H0 ρ (gcS σ0 h0 σs h).2 H := by
  unfold gcS
  split
  · rename_i c
    have hl : (h.take h0.length).length = h0.length := by rw [List.length_take]; have := E.len; omega
    refine ⟨cut_ok R0 R E c, ⟨by rw [cutE_len]; exact q.len, fun j x e => ?_⟩, E.cut⟩
    obtain ⟨e1, e2⟩ := cutE_val _ _ _ _ _ e
    obtain ⟨v, e3, r⟩ := q.val j x e1
    exact ⟨v, e3, r.cut (by rw [hl]; exact e2)⟩
  · exact ⟨R, q, E⟩
end

/-! ### loops -/
abbrev IF := SEnv → Hs → Out (List SV × (Hs → Bool))
structure ItOk (Z : Cz) (J : It) (xs : List SV) (chk : Hs → Bool) (ρ0 : Nat → Addr) (h0 : Hs) (H0 : Hp) : Prop where
  turn : ∀ i x ρ h H, Gro ρ0 h0 H0 ρ h H → RHp Z ρ h H → chk h = true → xs[i]? = some x → J.go i H ∧ ∀ v H', J.yld i H v H' → RHp Z ρ h H' ∧ Gro ρ h H ρ h H' ∧ RV Z ρ h.length H' x v
  stop : ∀ ρ h H, Gro ρ0 h0 H0 ρ h H → RHp Z ρ h H → chk h = true → J.stop xs.length H
def tAnyI (X : Cx) (tg iter : Expr) : TI := fun σ H R => ∀ (pins : List (Addr × Obj)) (s : Shared), Inv X pins σ H s → wpAny (model X.prog X.w) X.A (eval iter X.env) (fun v s1 => wpAny (model X.prog X.w) X.A (pyIter v) (PIE X pins σ tg R) X.xe s1) X.xe s
theorem pi_any {tg iter : Expr} : PI X tg iter (tAnyI X tg iter) := ⟨fun pins s σ H R I h => h pins s I⟩
abbrev relI (Z : Cz) : (Nat → Addr) → Nat → Hp → (List SV × (Hs → Bool)) → It → Prop := fun ρ n H p J => ∀ h0 : Hs, h0.length = n → RHp Z ρ h0 H → ItOk Z J p.1 p.2 ρ h0 H
structure SI (X : Cx) (G : Nat → Addr) (W : WX) (tg iter : Expr) (r : IF) : Prop where of ::
  run : ∀ ρ σs h σ H R, REnv (zOf X G) ρ h.length H σs σ → RHp (zOf X G) ρ h H → PostG (zOf X G) W ρ h H σ (relI (zOf X G)) (r σs h) R → tAnyI X tg iter σ H R
instance (X : Cx) (G : Nat → Addr) (W : WX) (tg iter : Expr) (r : IF) : CoeFun (SI X G W tg iter r) fun _ => ∀ ρ σs h σ H R, REnv (zOf X G) ρ h.length H σs σ → RHp (zOf X G) ρ h H → PostG (zOf X G) W ρ h H σ (relI (zOf X G)) (r σs h) R → tAnyI X tg iter σ H R := ⟨SI.run⟩
def forGo (σ0 : SEnv) (h0 : Hs) (g : GF) (body : SF) (chk : Hs → Bool) : List SV → SEnv → Hs → OS
  | [], σ, h => if chk h = true then .nx σ h else .stuck
  | x :: xs, σ, h => if chk h = true then (match g x σ with
    | none => .stuck
    | some σ1 => match body σ1 h with
      | .nx σ2 h2 => forGo σ0 h0 g body chk xs (gcS σ0 h0 σ2 h2).1 (gcS σ0 h0 σ2 h2).2
      | .ct σ2 h2 => forGo σ0 h0 g body chk xs (gcS σ0 h0 σ2 h2).1 (gcS σ0 h0 σ2 h2).2
      | .bk σ2 h2 => .nx σ2 h2
      | .rt v h2 => .rt v h2
      | .exc c fs σ2 h2 => .exc c fs σ2 h2
      | .stuck => .stuck) else .stuck
def sFor (ri : IF) (g : GF) (body : SF) : SF := fun σ h => (ri σ h).st σ fun p h => forGo σ h g body p.2 p.1 σ h
theorem ss_for {tg iter : Expr} {body : List Stmt} {ri : IF} {g : GF} {rb : SF} {is : List Nat} (ok : XOk X W) (si : SI X G W tg iter ri) (sg : SG X G tg g is) (sb : SSs X G W body rb)
    (hs : ∀ x, foldedSetIterable iter X.env x = pure x := by intro _; rfl) : SS X G W (.For tg iter body [] pos) (sFor ri g rb) := .of fun ρ σs h σ H D hE hR hP => by
  refine any_ps (ps_for ok.po ok.calm pi_any pg_any pss_any hs) (si ρ σs h σ H _ hE hR (PostS.expr hE hR hP fun p h1 ρ1 H1 J _ E1 R1 hJ p1 => ?_))
  have hJ := hJ h1 rfl R1
  have hE1 := hE.ext hR E1
  refine ⟨fun i m σ' H' => m = p.1.length - i ∧ i ≤ p.1.length ∧ ∃ ρ2 σ2 h2, Gro ρ1 h1 H1 ρ2 h2 H' ∧ RHp (zOf X G) ρ2 h2 H' ∧ REnv (zOf X G) ρ2 h2.length H' σ2 σ' ∧ PostS (zOf X G) W ρ1 h1 H1 (forGo σs h1 g rb p.2 (p.1.drop i) σ2 h2) D,
    ⟨p.1.length, by simp, Nat.zero_le _, ρ1, σs, h1, Gro.refl, R1, hE1, p1⟩, ?_⟩
  rintro i m σ2 H2 ⟨rfl, hi, ρ2, σ2s, h2, E2, R2, q2, p2⟩
  by_cases hlt : i < p.1.length
  · right
    have ed : p.1.drop i = p.1[i] :: p.1.drop (i + 1) := by rw [List.drop_eq_getElem_cons hlt]
    rw [ed] at p2
    unfold forGo at p2
    split at p2
    · rename_i hc
      obtain ⟨hgo, hy⟩ := hJ.turn i p.1[i] ρ2 h2 H2 E2 R2 hc (by simp [hlt])
      refine ⟨hgo, fun σ' H' => ∃ ρ3 σ3 h3, Gro ρ1 h1 H1 ρ3 h3 H' ∧ RHp (zOf X G) ρ3 h3 H' ∧ REnv (zOf X G) ρ3 h3.length H' σ3 σ' ∧ PostS (zOf X G) W ρ1 h1 H1 (forGo σs h1 g rb p.2 (p.1.drop (i + 1)) σ3 h3) D,
        fun σ' H' q => ⟨p.1.length - (i + 1), by omega, rfl, hlt, q⟩, fun x H' y => ?_⟩
      obtain ⟨R3, E3, v3⟩ := hy x H' y
      split at p2
      · exact p2.elim
      · rename_i σ1 e1
        refine sg ρ2 _ σ2s σ1 _ σ2 H' x _ (q2.ext R2 E3) v3 e1 fun σ4 _ q4 => ?_
        have E23 := E2.trans R2 E3
        refine sb ρ2 σ1 h2 σ4 H' _ q4 R3 ?_
        have gc : ∀ (σ5 : SEnv) (h5 : Hs), PostS (zOf X G) W ρ1 h1 H1 (forGo σs h1 g rb p.2 (p.1.drop (i + 1)) (gcS σs h1 σ5 h5).1 (gcS σs h1 σ5 h5).2) D →
            PEnv (zOf X G) ρ2 h2 H' σ5 h5 (fun σ' H' => ∃ ρ3 σ3 h3, Gro ρ1 h1 H1 ρ3 h3 H' ∧ RHp (zOf X G) ρ3 h3 H' ∧ REnv (zOf X G) ρ3 h3.length H' σ3 σ' ∧ PostS (zOf X G) W ρ1 h1 H1 (forGo σs h1 g rb p.2 (p.1.drop (i + 1)) σ3 h3) D) :=
          fun σ5 h5 p5 ρ5 H5 σ5r E5 R5 q5 => by
            have E15 := E23.trans R3 E5
            obtain ⟨a1, a2, a3⟩ := gc_ok (σ0 := σs) R1 R5 E15 q5
            exact ⟨ρ5, _, _, a3, a1, a2, p5⟩
        cases hb : rb σ1 h2 with
        | nx σ5 h5 => rw [hb] at p2; exact gc σ5 h5 p2
        | ct σ5 h5 => rw [hb] at p2; exact gc σ5 h5 p2
        | bk σ5 h5 => rw [hb] at p2; exact PEnv.step R3 E23 p2
        | rt v h5 => rw [hb] at p2; exact PVal.step R3 E23 p2
        | exc c fs σ5 h5 => rw [hb] at p2; exact PostS.step (r := .exc c fs σ5 h5) R3 E23 p2
        | stuck => rw [hb] at p2; exact p2.elim
    · exact p2.elim
  · left
    have e : i = p.1.length := by omega
    subst e
    rw [List.drop_length] at p2
    unfold forGo at p2
    split at p2
    · rename_i hc
      exact ⟨hJ.stop ρ2 h2 H2 E2 R2 hc, p2 ρ2 H2 σ2 E2 R2 q2⟩
    · exact p2.elim
end
end Pz

set_option Elab.async false
set_option linter.all false
set_option maxRecDepth 100000
set_option maxHeartbeats 1000000
namespace Pz
open PySem PySem.Spec L2 RZ
section
variable {X : Cx} {G : Nat → Addr} {W : WX} {pos : Pos} {a b c e tg : Expr} {ra rb rc : EF} {es : List Expr} {re : LF}
/-! ### what is walked -/
theorem it_tup {Z : Cz} {ρ : Nat → Addr} {h : Hs} {H : Hp} {p : Addr} {xs : List SV} {vs : List V} (q : SqT Z.K H p vs) (t : RVs Z ρ h.length H xs vs) (R0 : RHp Z ρ h H) : ItOk Z (Itt Z.K p) xs (fun _ => true) ρ h H where
  turn := fun i x ρ2 h2 H2 E R _ hx => by
    obtain ⟨v, e1, r⟩ := t.get hx
    have q2 : SqT Z.K H2 p vs := SqT.ext (fun a o e k => E.kept R0 e k) q
    refine ⟨⟨vs, v, q2, e1⟩, fun u H' ⟨e2, hy⟩ => ?_⟩
    subst e2
    have := hy vs q2
    rw [e1] at this; cases this
    exact ⟨R, Gro.refl, r.ext R0 E⟩
  stop := fun ρ2 h2 H2 E R _ => ⟨vs, SqT.ext (fun a o e k => E.kept R0 e k) q, Nat.le_of_eq t.length.symm⟩
def chkL (a : Nat) (xs : List SV) : Hs → Bool := fun h => decide (h[a]? = some (.lst xs))
theorem it_lst {Z : Cz} {ρ : Nat → Addr} {h : Hs} {H : Hp} {a : Nat} {xs : List SV} (hi : a < h.length) : ItOk Z (Itl Z.K (ρ a)) xs (chkL a xs) ρ h H where
  turn := fun i x ρ2 h2 H2 E R hc hx => by
    have e0 := of_decide_eq_true hc
    obtain ⟨_, vs, f, t⟩ := R.lst e0
    rw [E.agree a hi] at f
    obtain ⟨v, e1, r⟩ := t.get hx
    refine ⟨⟨vs, v, SqL.of f, e1⟩, fun u H' ⟨e2, hy⟩ => ?_⟩
    subst e2
    have := hy vs (SqL.of f)
    rw [e1] at this; cases this
    exact ⟨R, Gro.refl, r⟩
  stop := fun ρ2 h2 H2 E R hc => by
    have e0 := of_decide_eq_true hc
    obtain ⟨_, vs, f, t⟩ := R.lst e0
    rw [E.agree a hi] at f
    exact ⟨vs, SqL.of f, Nat.le_of_eq t.length.symm⟩
theorem it_rng {Z : Cz} {ρ : Nat → Addr} {h : Hs} {H : Hp} {lo : Int} {n : Nat} : ItOk Z (Itr lo n) ((List.range n).map fun i => SV.int (lo + (i : Nat))) (fun _ => true) ρ h H where
  turn := fun i x ρ2 h2 H2 E R _ hx => by
    rw [List.getElem?_map, Option.map_eq_some_iff] at hx
    obtain ⟨j, e1, rfl⟩ := hx
    have hi : i < n := by have := (List.getElem?_eq_some_iff.mp e1).1; simpa using this
    rw [List.getElem?_range hi] at e1; cases e1
    refine ⟨hi, fun v H' ⟨e2, e3⟩ => ?_⟩
    subst e2 e3
    exact ⟨R, Gro.refl, .int _⟩
  stop := fun _ _ _ _ _ _ => by
    show n ≤ _
    simp
def chars (x : Str) : List SV := x.cps.toList.map fun c => SV.str ⟨#[c]⟩
theorem it_str {Z : Cz} {ρ : Nat → Addr} {h : Hs} {H : Hp} {z : Str} : ItOk Z (Its z) (chars z) (fun _ => true) ρ h H where
  turn := fun i x ρ2 h2 H2 E R _ hx => by
    unfold chars at hx
    rw [List.getElem?_map, Option.map_eq_some_iff] at hx
    obtain ⟨c, e1, rfl⟩ := hx
    have hi : i < z.cps.size := by have := (List.getElem?_eq_some_iff.mp e1).1; simpa using this
    refine ⟨hi, fun v H' ⟨e2, d, e3, e4⟩ => ?_⟩
    subst e2 e4
    have : d = c := by
      rw [Array.getElem?_toList] at e1
      rw [e1] at e3; cases e3; rfl
    subst this
    exact ⟨R, Gro.refl, .str _⟩
  stop := fun _ _ _ _ _ _ => by
    show z.cps.size ≤ _
    simp [chars]
/-- a range -/
def iRng1 (re : LF) : IF := fun σ h => (re σ h).bnd fun vs h => match vs with
  | [.int j] => if -(2 ^ 62) ≤ j ∧ j < 2 ^ 62 then .ok ((List.range j.toNat).map fun i => SV.int (0 + (i : Nat)), fun _ => true) h else .stuck
  | _ => .stuck
def iRng2 (re : LF) : IF := fun σ h => (re σ h).bnd fun vs h => match vs with
  | [.int i, .int j] => if -(2 ^ 62) ≤ i ∧ i < 2 ^ 62 ∧ -(2 ^ 62) ≤ j ∧ j < 2 ^ 62 then .ok ((List.range (j - i).toNat).map fun k => SV.int (i + (k : Nat)), fun _ => true) h else .stuck
  | _ => .stuck
theorem si_pi {iter : Expr} {t : TI} {r : IF} (p : PI X tg iter t) (k : ∀ ρ σs h σ H R, REnv (zOf X G) ρ h.length H σs σ → RHp (zOf X G) ρ h H → PostG (zOf X G) W ρ h H σ (relI (zOf X G)) (r σs h) R → t σ H R) : SI X G W tg iter r :=
  .of fun ρ σs h σ H R hE hR hP pins s I => p.run pins s σ H R I (k ρ σs h σ H R hE hR hP)
theorem si_rng1 {p : Pos} (hm : X.mg "range" = none) (sl : SA X G W [a] re) (hg : Gl X "range" := by rfl) (hs : starEach [a] X.env = [(false, eval a X.env)] := by rfl) : SI X G W tg (.Call (.Name "range" p) [a] [] pos) (iRng1 re) :=
  si_pi (pi_range1 hg hm pa_any hs) fun ρ σs h σ H R hE hR hP => sl ρ σs h σ H _ hE hR (hP.fst fun vs h1 ρ1 H1 xs _ E1 R1 v1 p1 => by
    split at p1
    · obtain ⟨x, rfl, r⟩ := rvs1 v1
      cases r
      split at p1
      · rename_i hz
        exact ⟨_, rfl, hz.1, hz.2, PostG.ret R1 (fun h0 _ _ => it_rng) p1⟩
      · exact p1.elim
    · exact p1.elim)
theorem si_rng2 {p : Pos} (hm : X.mg "range" = none) (sl : SA X G W [a, b] re) (hg : Gl X "range" := by rfl) (hs : starEach [a, b] X.env = [(false, eval a X.env), (false, eval b X.env)] := by rfl) (hs2 : starEach [b] X.env = [(false, eval b X.env)] := by rfl) : SI X G W tg (.Call (.Name "range" p) [a, b] [] pos) (iRng2 re) :=
  si_pi (pi_range2 hg hm pa_any hs hs2) fun ρ σs h σ H R hE hR hP => sl ρ σs h σ H _ hE hR (hP.fst fun vs h1 ρ1 H1 xs _ E1 R1 v1 p1 => by
    split at p1
    · obtain ⟨x, y, rfl, r, r2⟩ := rvs2 v1
      cases r; cases r2
      split at p1
      · rename_i hz
        exact ⟨_, _, rfl, hz, PostG.ret R1 (fun h0 _ _ => it_rng) p1⟩
      · exact p1.elim
    · exact p1.elim)
/-- a list, a tuple, a text, the script -/
def iSeq (ra : EF) : IF := fun σ h => (ra σ h).bnd fun v h => match v with
  | .tup xs => .ok (xs, fun _ => true) h
  | .ref a => (match h[a]? with
    | some (.lst xs) => .ok (xs, chkL a xs) h
    | _ => .stuck)
  | .str x => .ok (chars x, fun _ => true) h
  | _ => .stuck
theorem walk_lst {pins : List (Addr × Obj)} {σ : L2.St} {H : Hp} {s : Shared} {p : Addr} {vs : List V} {R : It → Hp → Prop} (I : Inv X pins σ H s) (q : SqL X.K H p vs) (k : R (Itl X.K p) H) : wpAny (model X.prog X.w) X.A (pyIter (.ref p)) (PIE X pins σ tg R) X.xe s := by
  obtain ⟨its, _, pl, _⟩ := I.list q
  exact wpAny_pyIter_list pl.isList (pi_one (tk := s.toks) I _ (turn_list p _) ⟨_, Heap.get?_push_size _ rfl, rfl, rfl⟩ k)
theorem walk_tup {pins : List (Addr × Obj)} {σ : L2.St} {H : Hp} {s : Shared} {p : Addr} {vs : List V} {R : It → Hp → Prop} (I : Inv X pins σ H s) (q : SqT X.K H p vs) (k : R (Itt X.K p) H) : wpAny (model X.prog X.w) X.A (pyIter (.ref p)) (PIE X pins σ tg R) X.xe s := by
  obtain ⟨its, _, pl, _⟩ := I.tuple q
  exact wpAny_pyIter_tuple (show s.heap.IsTuple p its.toArray from pl) (pi_one (tk := s.toks) I _ (turn_tuple p _) ⟨_, Heap.get?_push_size _ rfl, rfl, rfl⟩ k)
theorem walk_str {pins : List (Addr × Obj)} {σ : L2.St} {H : Hp} {s : Shared} {z : Str} {t : Tok} {R : It → Hp → Prop} (I : Inv X pins σ H s) (k : R (Its z) H) : wpAny (model X.prog X.w) X.A (pyIter (.str z t)) (PIE X pins σ tg R) X.xe s := by
  cases hz : z.cps.all (· < 128)
  · exact wpAny_pyIter_wide hz (pi_one (tk := s.toks) I _ (turn_str _ z t "str_iterator" (.inr rfl)) ⟨_, Heap.get?_push_size _ rfl, rfl, rfl⟩ k)
  · exact wpAny_pyIter_ascii hz (pi_one (tk := s.toks) I _ (turn_str _ z t "str_ascii_iterator" (.inl rfl)) ⟨_, Heap.get?_push_size _ rfl, rfl, rfl⟩ k)
theorem si_seq (sa : SE X G W a ra) : SI X G W tg a (iSeq ra) := .of fun ρ σs h σ H R hE hR hP pins s I => by
  refine thn (sa ρ σs h σ H (fun x H1 => ∀ (pins : List (Addr × Obj)) (s : Shared) (u : Value), Inv X pins σ H1 s → RelV x u → wpAny (model X.prog X.w) X.A (pyIter u) (PIE X pins σ tg R) X.xe s) hE hR (hP.fst fun v h1 ρ1 H1 x _ E1 R1 v1 p1 pins s u I rx => ?_) pins s I) fun v s1 ⟨x, H1, I1, r1, q1⟩ => q1 pins s1 v I1 r1
  split at p1
  · cases v1 with | tup q t => ?_
    cases rx
    exact walk_tup I q (PostG.ret R1 (fun h0 e0 R0 => it_tup q (by rw [e0]; exact t) R0) p1)
  · cases v1 with | ref hi => ?_
    cases rx
    split at p1
    · rename_i e0
      obtain ⟨_, vs, f, t⟩ := R1.lst e0
      exact walk_lst I (SqL.of f) (PostG.ret R1 (fun h0 e1 R0 => it_lst (by rw [e1]; exact hi)) p1)
    · exact p1.elim
  · cases v1
    obtain ⟨t, rfl⟩ := rx
    exact walk_str I (PostG.ret R1 (fun h0 _ _ => it_str) p1)
  · exact p1.elim
/-- enumerate(list) with a pair of names -/
theorem it_enum {Z : Cz} {ρ : Nat → Addr} {h : Hs} {H : Hp} {a : Nat} {xs : List SV} (hi : a < h.length) : ItOk Z (Ite Z.K (ρ a)) (xs.mapIdx fun i x => SV.tup [.int (i : Nat), x]) (chkL a xs) ρ h H where
  turn := fun i x ρ2 h2 H2 E R hc hx => by
    have e0 := of_decide_eq_true hc
    obtain ⟨_, vs, f, t⟩ := R.lst e0
    rw [E.agree a hi] at f
    rw [List.getElem?_mapIdx, Option.map_eq_some_iff] at hx
    obtain ⟨y, ey, rfl⟩ := hx
    obtain ⟨v, e1, r⟩ := t.get ey
    refine ⟨⟨vs, v, SqL.of f, e1⟩, fun u H' ⟨T, y', e2, hT, e3, hy⟩ => ?_⟩
    subst e2 e3
    have := hy vs (SqL.of f)
    rw [e1] at this; cases this
    refine ⟨R.lay hT, Gro.lay hT, .tup (SqT.of upd_same) (.cons (.int _) (.cons ?_ .nil))⟩
    exact r.ext' (keep_lay hT) (Nat.le_refl _) fun _ _ => rfl
  stop := fun ρ2 h2 H2 E R hc => by
    have e0 := of_decide_eq_true hc
    obtain ⟨_, vs, f, t⟩ := R.lst e0
    rw [E.agree a hi] at f
    exact ⟨vs, SqL.of f, by rw [List.length_mapIdx]; exact Nat.le_of_eq t.length.symm⟩
def iEnum (re : LF) : IF := fun σ h => (re σ h).bnd fun vs h => match vs with
  | [.ref a] => (match h[a]? with
    | some (.lst xs) => .ok (xs.mapIdx fun i x => SV.tup [.int (i : Nat), x], chkL a xs) h
    | _ => .stuck)
  | _ => .stuck
theorem si_enum {p tpos : Pos} {elts : List Expr} {kk : Nat} (hm : X.mg "enumerate" = none) (sl : SA X G W [a] re) (hg : Gl X "enumerate" := by rfl) (hs : starEach [a] X.env = [(false, eval a X.env)] := by rfl) : SI X G W (.Tuple elts kk tpos) (.Call (.Name "enumerate" p) [a] [] pos) (iEnum re) :=
  si_pi (pi_enum hg hm pa_any hs) fun ρ σs h σ H R hE hR hP => sl ρ σs h σ H _ hE hR (hP.fst fun vs h1 ρ1 H1 xs _ E1 R1 v1 p1 => by
    split at p1
    · obtain ⟨x, rfl, r⟩ := rvs1 v1
      cases r with | ref hi => ?_
      split at p1
      · rename_i e0
        obtain ⟨_, vs, f, t⟩ := R1.lst e0
        exact ⟨_, _, rfl, SqL.of f, PostG.ret R1 (fun h0 e1 _ => it_enum (by rw [e1]; exact hi)) p1⟩
      · exact p1.elim
    · exact p1.elim)
/-- zip of two tuples, of two lists -/
def zipS (xs ys : List SV) : List SV := List.zipWith (fun x y => SV.tup [x, y]) xs ys
theorem zipS_get {xs ys : List SV} {i : Nat} {z : SV} (e : (zipS xs ys)[i]? = some z) : ∃ x y, xs[i]? = some x ∧ ys[i]? = some y ∧ z = .tup [x, y] := by
  unfold zipS at e
  rw [List.getElem?_zipWith] at e
  cases e1 : xs[i]? with
  | none => rw [e1] at e; simp at e
  | some x =>
    cases e2 : ys[i]? with
    | none => rw [e1, e2] at e; simp at e
    | some y => rw [e1, e2] at e; simp at e; exact ⟨x, y, rfl, rfl, e.symm⟩
theorem zip_pair {Z : Cz} {ρ : Nat → Addr} {h : Hs} {H : Hp} {T : Addr} {x y : SV} {u v : V} (R : RHp Z ρ h H) (hT : H T = none) (r1 : RV Z ρ h.length H x u) (r2 : RV Z ρ h.length H y v) :
    RHp Z ρ h (upd H T (.tup [u, v])) ∧ Gro ρ h H ρ h (upd H T (.tup [u, v])) ∧ RV Z ρ h.length (upd H T (.tup [u, v])) (.tup [x, y]) (.ref T) :=
  ⟨R.lay hT, Gro.lay hT, .tup (SqT.of upd_same) (.cons (r1.ext' (keep_lay hT) (Nat.le_refl _) fun _ _ => rfl) (.cons (r2.ext' (keep_lay hT) (Nat.le_refl _) fun _ _ => rfl) .nil))⟩
theorem it_zipT {Z : Cz} {ρ : Nat → Addr} {h : Hs} {H : Hp} {p q : Addr} {xs ys : List SV} {us vs : List V} (q1 : SqT Z.K H p us) (t1 : RVs Z ρ h.length H xs us) (q2 : SqT Z.K H q vs) (t2 : RVs Z ρ h.length H ys vs) (R0 : RHp Z ρ h H) :
    ItOk Z (ItzT Z.K p q) (zipS xs ys) (fun _ => true) ρ h H where
  turn := fun i z ρ2 h2 H2 E R _ hz => by
    obtain ⟨x, y, ex, ey, rfl⟩ := zipS_get hz
    obtain ⟨u, e1, r1⟩ := t1.get ex
    obtain ⟨v, e2, r2⟩ := t2.get ey
    have s1 : SqT Z.K H2 p us := SqT.ext (fun a o e k => E.kept R0 e k) q1
    have s2 : SqT Z.K H2 q vs := SqT.ext (fun a o e k => E.kept R0 e k) q2
    refine ⟨⟨us, vs, u, v, s1, s2, e1, e2⟩, fun w H' ⟨T, u', v', e3, hT, e4, a1, a2⟩ => ?_⟩
    subst e3 e4
    have b1 := a1 us s1
    have b2 := a2 vs s2
    rw [e1] at b1; cases b1
    rw [e2] at b2; cases b2
    exact zip_pair R hT (r1.ext R0 E) (r2.ext R0 E)
  stop := fun ρ2 h2 H2 E R _ => ⟨us, vs, SqT.ext (fun a o e k => E.kept R0 e k) q1, SqT.ext (fun a o e k => E.kept R0 e k) q2, by
    have := t1.length; have := t2.length
    unfold zipS; rw [List.length_zipWith]; omega⟩
theorem it_zipL {Z : Cz} {ρ : Nat → Addr} {h : Hs} {H : Hp} {a b : Nat} {xs ys : List SV} (ha : a < h.length) (hb : b < h.length) : ItOk Z (Itz Z.K (ρ a) (ρ b)) (zipS xs ys) (fun h => chkL a xs h && chkL b ys h) ρ h H where
  turn := fun i z ρ2 h2 H2 E R hc hz => by
    rw [Bool.and_eq_true] at hc
    obtain ⟨x, y, ex, ey, rfl⟩ := zipS_get hz
    obtain ⟨_, us, f1, t1⟩ := R.lst (of_decide_eq_true hc.1)
    obtain ⟨_, vs, f2, t2⟩ := R.lst (of_decide_eq_true hc.2)
    rw [E.agree a ha] at f1
    rw [E.agree b hb] at f2
    obtain ⟨u, e1, r1⟩ := t1.get ex
    obtain ⟨v, e2, r2⟩ := t2.get ey
    refine ⟨⟨us, vs, u, v, SqL.of f1, SqL.of f2, e1, e2⟩, fun w H' ⟨T, u', v', e3, hT, e4, a1, a2⟩ => ?_⟩
    subst e3 e4
    have b1 := a1 us (SqL.of f1)
    have b2 := a2 vs (SqL.of f2)
    rw [e1] at b1; cases b1
    rw [e2] at b2; cases b2
    exact zip_pair R hT r1 r2
  stop := fun ρ2 h2 H2 E R hc => by
    rw [Bool.and_eq_true] at hc
    obtain ⟨_, us, f1, t1⟩ := R.lst (of_decide_eq_true hc.1)
    obtain ⟨_, vs, f2, t2⟩ := R.lst (of_decide_eq_true hc.2)
    rw [E.agree a ha] at f1
    rw [E.agree b hb] at f2
    have := t1.length; have := t2.length
    exact ⟨us, vs, SqL.of f1, SqL.of f2, by unfold zipS; rw [List.length_zipWith]; omega⟩
def iZip (re : LF) : IF := fun σ h => (re σ h).bnd fun vs h => match vs with
  | [.tup xs, .tup ys] => .ok (zipS xs ys, fun _ => true) h
  | [.ref a, .ref b] => (match h[a]?, h[b]? with
    | some (.lst xs), some (.lst ys) => .ok (zipS xs ys, fun h => chkL a xs h && chkL b ys h) h
    | _, _ => .stuck)
  | _ => .stuck
theorem si_zip {p tpos : Pos} {elts : List Expr} {kk : Nat} (hm : X.mg "zip" = none) (sl : SA X G W [a, b] re) (hg : Gl X "zip" := by rfl) (hs : starEach [a, b] X.env = (false, eval a X.env) :: starEach [b] X.env := by rfl) (hpl : (backTo pos (starEach [b] X.env)).any (·.1) = false := by rfl) :
    SI X G W (.Tuple elts kk tpos) (.Call (.Name "zip" p) [a, b] [] pos) (iZip re) :=
  si_pi (pi_zipA hg hm pa_any hs hpl) fun ρ σs h σ H R hE hR hP => sl ρ σs h σ H _ hE hR (hP.fst fun vs h1 ρ1 H1 xs _ E1 R1 v1 p1 => by
    split at p1
    · obtain ⟨x, y, rfl, r, r2⟩ := rvs2 v1
      cases r with | tup q1 t1 => ?_
      cases r2 with | tup q2 t2 => ?_
      exact ⟨_, _, _, _, rfl, .inr ⟨q1, q2, PostG.ret R1 (fun h0 e1 R0 => it_zipT q1 (by rw [e1]; exact t1) q2 (by rw [e1]; exact t2) R0) p1⟩⟩
    · obtain ⟨x, y, rfl, r, r2⟩ := rvs2 v1
      cases r with | ref ha => ?_
      cases r2 with | ref hb => ?_
      split at p1
      · rename_i e0 e2
        obtain ⟨_, us, f1, t1⟩ := R1.lst e0
        obtain ⟨_, vs, f2, t2⟩ := R1.lst e2
        exact ⟨_, _, _, _, rfl, .inl ⟨SqL.of f1, SqL.of f2, PostG.ret R1 (fun h0 e1 _ => it_zipL (by rw [e1]; exact ha) (by rw [e1]; exact hb)) p1⟩⟩
      · exact p1.elim
    · exact p1.elim)

/-! ### while -/
def whileGo (σ0 : SEnv) (h0 : Hs) (t : SEnv → Hs → Out Bool) (body : SF) : Nat → SEnv → Hs → OS
  | 0, _, _ => .stuck
  | n + 1, σ, h => (t σ h).st σ fun k h1 => if k = true then (match body σ h1 with
      | .nx σ2 h2 => whileGo σ0 h0 t body n (gcS σ0 h0 σ2 h2).1 (gcS σ0 h0 σ2 h2).2
      | .ct σ2 h2 => whileGo σ0 h0 t body n (gcS σ0 h0 σ2 h2).1 (gcS σ0 h0 σ2 h2).2
      | .bk σ2 h2 => .nx σ2 h2
      | .rt v h2 => .rt v h2
      | .exc c fs σ2 h2 => .exc c fs σ2 h2
      | .stuck => .stuck) else .nx σ h1
def sWhile (fuel : Nat) (t : SEnv → Hs → Out Bool) (body : SF) : SF := fun σ h => whileGo σ h t body fuel σ h
theorem ss_while {body : List Stmt} {tc : SEnv → Hs → Out Bool} {rb : SF} (fuel : Nat) (ok : XOs X W) (st : ST X G W c tc) (sb : SSs X G W body rb) : SS X G W (.While c body [] pos) (sWhile fuel tc rb) := .of fun ρ σs h σ H D hE hR hP => by
  refine any_ps (ps_while ok.po pt_any pss_any) ?_
  refine ⟨fun m σ' H' => ∃ ρ2 σ2 h2, Gro ρ h H ρ2 h2 H' ∧ RHp (zOf X G) ρ2 h2 H' ∧ REnv (zOf X G) ρ2 h2.length H' σ2 σ' ∧ PostS (zOf X G) W ρ h H (whileGo σs h tc rb m σ2 h2) D, ⟨fuel, ρ, σs, h, Gro.refl, hR, hE, hP⟩, ?_⟩
  rintro m σ2 H2 ⟨ρ2, σ2s, h2, E2, R2, q2, p2⟩
  cases m with
  | zero => exact p2.elim
  | succ m =>
    unfold whileGo at p2
    refine st ρ2 σ2s h2 σ2 H2 _ q2 R2 (PostS.expr q2 R2 (PostS.step R2 E2 p2) fun k h3 ρ3 H3 k' ek E3 R3 e p3' => ?_)
    have e' : k = k' := e
    subst e'
    have E13 := E2.trans R2 E3
    rw [ek, Out.st_ok] at p2
    cases k with
    | false => rw [if_neg Bool.false_ne_true] at p2 ⊢; exact p2 ρ3 H3 σ2 E13 R3 (q2.ext R2 E3)
    | true =>
      rw [if_pos rfl] at p2 ⊢
      refine ⟨fun σ' H' => ∃ ρ3 σ3 h3, Gro ρ h H ρ3 h3 H' ∧ RHp (zOf X G) ρ3 h3 H' ∧ REnv (zOf X G) ρ3 h3.length H' σ3 σ' ∧ PostS (zOf X G) W ρ h H (whileGo σs h tc rb m σ3 h3) D, fun σ' H' q => ⟨m, Nat.lt_succ_self _, q⟩, ?_⟩
      refine sb ρ3 σ2s h3 σ2 H3 _ (q2.ext R2 E3) R3 ?_
      have gc : ∀ (σ5 : SEnv) (h5 : Hs), PostS (zOf X G) W ρ h H (whileGo σs h tc rb m (gcS σs h σ5 h5).1 (gcS σs h σ5 h5).2) D →
          PEnv (zOf X G) ρ3 h3 H3 σ5 h5 (fun σ' H' => ∃ ρ3 σ3 h3, Gro ρ h H ρ3 h3 H' ∧ RHp (zOf X G) ρ3 h3 H' ∧ REnv (zOf X G) ρ3 h3.length H' σ3 σ' ∧ PostS (zOf X G) W ρ h H (whileGo σs h tc rb m σ3 h3) D) :=
        fun σ5 h5 p5 ρ5 H5 σ5r E5 R5 q5 => by
          have E15 := E13.trans R3 E5
          obtain ⟨a1, a2, a3⟩ := gc_ok (σ0 := σs) hR R5 E15 q5
          exact ⟨ρ5, _, _, a3, a1, a2, p5⟩
      cases hb : rb σ2s h3 with
      | nx σ5 h5 => rw [hb] at p2; exact gc σ5 h5 p2
      | ct σ5 h5 => rw [hb] at p2; exact gc σ5 h5 p2
      | bk σ5 h5 => rw [hb] at p2; exact PEnv.step R3 E13 p2
      | rt v h5 => rw [hb] at p2; exact PVal.step R3 E13 p2
      | exc c fs σ5 h5 => rw [hb] at p2; exact PostS.step (r := .exc c fs σ5 h5) R3 E13 p2
      | stuck => rw [hb] at p2; exact p2.elim
end
end Pz

set_option Elab.async false
set_option linter.all false
set_option maxRecDepth 100000
set_option maxHeartbeats 1000000
namespace Pz
open PySem PySem.Spec L2

/-! ### what a value needs of the heap behind it -/
def gcV (h0 : Hs) (m : Nat) (h : Hs) : Hs :=
  if m ≤ h0.length ∧ (h.take h0.length = h0 ∨ (h.take h0.length).all (fun o => decide (o.mx ≤ h0.length)) = true) then h.take h0.length else h
section
variable {Z : Cz} {ρ0 ρ : Nat → Addr} {h0 h : Hs} {H0 H : Hp}
theorem gcV_ok {m : Nat} (R0 : RHp Z ρ0 h0 H0) (R : RHp Z ρ h H) (E : Gro ρ0 h0 H0 ρ h H) : RHp Z ρ (gcV h0 m h) H ∧ Gro ρ0 h0 H0 ρ (gcV h0 m h) H ∧ (gcV h0 m h = h ∨ ((gcV h0 m h).length = h0.length ∧ m ≤ h0.length)) := by
  unfold gcV
  split
  · rename_i c
    have hl : (h.take h0.length).length = h0.length := by rw [List.length_take]; have := E.len; omega
    exact ⟨cut_ok R0 R E c.2, E.cut, .inr ⟨hl, c.1⟩⟩
  · exact ⟨R, E, .inl rfl⟩
theorem RV.gc {v : SV} {x : V} {h1 : Hs} (q : h1 = h ∨ (h1.length = h0.length ∧ v.mx ≤ h0.length)) (r : RV Z ρ h.length H v x) : RV Z ρ h1.length H v x := by
  rcases q with rfl | ⟨e, hm⟩
  · exact r
  · exact r.cut (by rw [e]; exact hm)
/-- a tracked object that the heap doesn't know yet -/
theorem RHp.adopt {xs : List SV} {vs : List V} {D : Addr} (R : RHp Z ρ h H) (hD : H D = some (.lst vs)) (hne : ∀ i, i < h.length → ρ i ≠ D) (t : RVs Z ρ h.length H xs vs) : RHp Z (putA ρ h.length D) (h ++ [.lst xs]) H where
  ob := fun i x e => by
    rw [List.length_append]
    by_cases hi : i < h.length
    · rw [List.getElem?_append_left hi] at e
      rw [putA_lt hi]
      exact (R.ob i x e).ext' (fun a o e _ => e) (by simp) (fun j hj => putA_lt hj) rfl
    · have e2 : i = h.length := by
        have := (List.getElem?_eq_some_iff.mp e).1
        simp at this; omega
      subst e2
      simp at e; subst e
      rw [putA_same]
      exact ⟨vs, hD, t.ext' (fun a o e _ => e) (by simp) fun j hj => putA_lt hj⟩
  inj := fun i j hi hj e => by
    simp at hi hj
    by_cases h1 : i < h.length
    · by_cases h2 : j < h.length
      · rw [putA_lt h1, putA_lt h2] at e; exact R.inj i j h1 h2 e
      · have : j = h.length := by omega
        subst this
        rw [putA_lt h1, putA_same] at e
        exact absurd e (hne i h1)
    · have : i = h.length := by omega
      subst this
      by_cases h2 : j < h.length
      · rw [putA_lt h2, putA_same] at e
        exact absurd e.symm (hne j h2)
      · omega
end

/-! ### comprehensions -/
def wipeS (σ : SEnv) : List Nat → SEnv
  | [] => σ
  | v :: vs => (wipeS σ vs).set v none
theorem renv_wipe {Z : Cz} {ρ : Nat → Addr} {n : Nat} {H : Hp} {σs : SEnv} {σ : L2.St} (q : REnv Z ρ n H σs σ) : ∀ vs, REnv Z ρ n H (wipeS σs vs) (wipe σ vs)
  | [] => q
  | v :: vs => by
    have ih := renv_wipe q vs
    unfold wipeS wipe
    refine ⟨by simp [ih.len], fun j x e => ?_⟩
    by_cases hj : v = j
    · subst hj
      have hi : v < (wipeS σs vs).length := by have := (List.getElem?_eq_some_iff.mp e).1; simpa using this
      rw [List.getElem?_set_self hi] at e; cases e
    · rw [List.getElem?_set_ne hj] at e ⊢
      exact ih.val j x e
def lcGo (g : GF) (tt : SEnv → Hs → Out Bool) (te : EF) (chk : Hs → Bool) (σw : SEnv) : List SV → Hs → List SV → Out (List SV)
  | [], h, acc => if chk h = true then .ok acc h else .stuck
  | x :: xs, h, acc => if chk h = true ∧ acc.length < 1000000 then (match g x σw with
    | none => .stuck
    | some σ2 => match tt σ2 h with
      | .ok true h2 => (match te σ2 h2 with
        | .ok y h3 => lcGo g tt te chk σw xs (gcV h y.mx h3) (acc ++ [y])
        | _ => .stuck)
      | .ok false h2 => lcGo g tt te chk σw xs (gcV h 0 h2) acc
      | _ => .stuck) else .stuck
def rLc (own : List Nat) (ri : IF) (g : GF) (tt : SEnv → Hs → Out Bool) (te : EF) : EF := fun σ h => (ri σ h).bnd fun p h => match lcGo g tt te p.2 (wipeS σ own) p.1 h [] with
  | .ok acc h => .ok (.ref h.length) (h ++ [.lst acc])
  | _ => .stuck
def tYesS : SEnv → Hs → Out Bool := fun _ h => .ok true h
abbrev W0 : WX := fun _ _ _ _ => False
structure SPs (X : Cx) (G : Nat → Addr) (W : WX) (ifs : List Expr) (r : SEnv → Hs → Out Bool) : Prop where of ::
  run : ∀ ρ σs h σ H Q, REnv (zOf X G) ρ h.length H σs σ → RHp (zOf X G) ρ h H → PostB (zOf X G) W ρ h H σ (r σs h) Q → ∃ t, PTs X ifs t ∧ t σ H Q
instance (X : Cx) (G : Nat → Addr) (W : WX) (ifs : List Expr) (r : SEnv → Hs → Out Bool) : CoeFun (SPs X G W ifs r) fun _ => ∀ ρ σs h σ H Q, REnv (zOf X G) ρ h.length H σs σ → RHp (zOf X G) ρ h H → PostB (zOf X G) W ρ h H σ (r σs h) Q → ∃ t, PTs X ifs t ∧ t σ H Q := ⟨SPs.run⟩
def tAnyTs (X : Cx) (ifs : List Expr) : TT := fun σ H Q => ∀ (pins : List (Addr × Obj)) (s : Shared), Inv X pins σ H s →
  wpAny (model X.prog X.w) X.A (forIn ifs true fun c r => if r = true then do let ok ← isTrue c X.env (eval c X.env); pure (ForInStep.yield ok) else pure (ForInStep.yield r)) (TP X pins σ Q) X.xe s
theorem pts_any {X : Cx} {ifs : List Expr} : PTs X ifs (tAnyTs X ifs) := ⟨fun pins s σ H Q I h => h pins s I⟩
structure STs (X : Cx) (G : Nat → Addr) (W : WX) (ifs : List Expr) (r : SEnv → Hs → Out Bool) : Prop where of ::
  run : ∀ ρ σs h σ H Q, REnv (zOf X G) ρ h.length H σs σ → RHp (zOf X G) ρ h H → PostB (zOf X G) W ρ h H σ (r σs h) Q → tAnyTs X ifs σ H Q
instance (X : Cx) (G : Nat → Addr) (W : WX) (ifs : List Expr) (r : SEnv → Hs → Out Bool) : CoeFun (STs X G W ifs r) fun _ => ∀ ρ σs h σ H Q, REnv (zOf X G) ρ h.length H σs σ → RHp (zOf X G) ρ h H → PostB (zOf X G) W ρ h H σ (r σs h) Q → tAnyTs X ifs σ H Q := ⟨STs.run⟩
section
variable {X : Cx} {G : Nat → Addr} {W : WX} {pos : Pos} {c e tg : Expr} {tt : SEnv → Hs → Out Bool}
theorem sts_nil : STs X G W [] tYesS := .of fun ρ σs h σ H Q hE hR hP pins s I => pts_nil.run pins s σ H Q I (PostG.ret hR rfl hP)
theorem sts_one (s : ST X G W c tt) : STs X G W [c] tt := .of fun ρ σs h σ H Q hE hR hP pins s' I => (pts_one pt_any).run pins s' σ H Q I (s ρ σs h σ H Q hE hR hP)
theorem XOk.blk (ok : XOk X W) {s : Shared} {H : Hp} {scope : Scope} {ce : PySem.Env} {fp : List Addr} : XOk (X.blk s H scope ce fp) W0 := ⟨⟨ok.nd, takes0, PassesOwn.never, ok.gd, ok.hu⟩, ok.calm⟩
theorem wipe_idem (σ : L2.St) : ∀ vs : List Nat, wipe (wipe σ vs) vs = wipe σ vs := fun vs => by
  apply List.ext_getElem?
  intro i
  have key : ∀ (ws : List Nat) (τ : L2.St), (wipe τ ws)[i]? = if i ∈ ws then (if i < τ.length then some none else none) else τ[i]? := by
    intro ws
    induction ws with
    | nil => intro τ; simp [wipe]
    | cons w ws ih =>
      intro τ
      unfold wipe
      rw [List.getElem?_set, ih, wipe_length]
      by_cases h1 : w = i
      · subst h1
        by_cases h2 : w < τ.length <;> simp [h2]
      · simp only [if_neg h1, List.mem_cons]
        by_cases h2 : i ∈ ws
        · simp [h2]
        · have h3 : ¬ i = w := fun e => h1 e.symm
          simp [h2, h3]
  rw [key, key, wipe_length]
  by_cases h : i ∈ vs <;> simp [h]
section
variable {Z : Cz} {ρ ρ' : Nat → Addr} {n : Nat} {h h' : Hs} {H H' : Hp} {D : Addr} {vs ws : List V}
theorem keep_off (hD : H D = some (.lst vs)) : ∀ a o, H a = some o → ((∃ xs, o = .tup xs) ∨ (∃ b u, o = .frz b u) ∨ (∃ y, o = .own y)) → upd H D (.lst ws) a = some o := fun a o e k => by
  have ne : a ≠ D := fun z => by
    subst z
    rw [hD] at e; cases e
    rcases k with ⟨_, k⟩ | ⟨_, _, k⟩ | ⟨_, k⟩ <;> cases k
  rw [upd_ne ne]; exact e
theorem RHp.off (R : RHp Z ρ h H) (hD : H D = some (.lst vs)) (hne : ∀ i, i < h.length → ρ i ≠ D) : RHp Z ρ h (upd H D (.lst ws)) :=
  ⟨fun i o e => (R.ob i o e).ext' (keep_off hD) (Nat.le_refl _) (fun _ _ => rfl) (upd_ne (hne i (List.getElem?_eq_some_iff.mp e).1)), R.inj⟩
end
section
variable (X : Cx) (scope : Scope)
def gAll (tg : Expr) : TG := fun v σ H Q => ∀ (s : Shared) (H0 : Hp) (C : Addr) (cl : List (Str × Addr)) (fp : List Addr), tAnyG (X.blk s H0 scope (compEnvC scope cl C X.env) fp) tg v σ H Q
def tsAll (ifs : List Expr) : TT := fun σ H Q => ∀ (s : Shared) (H0 : Hp) (C : Addr) (cl : List (Str × Addr)) (fp : List Addr), tAnyTs (X.blk s H0 scope (compEnvC scope cl C X.env) fp) ifs σ H Q
def eAll (e : Expr) : TE := fun σ H Q => ∀ (s : Shared) (H0 : Hp) (C : Addr) (cl : List (Str × Addr)) (fp : List Addr), tAny (X.blk s H0 scope (compEnvC scope cl C X.env) fp) e σ H Q
end
theorem lc_post {elt iter : Expr} {ifs : List Expr} {scope : Scope} {vs : List Nat} {ri : IF} {g : GF} {te : EF} {is : List Nat} (si : SI X G W tg iter ri)
    (sg : ∀ (s : Shared) (H : Hp) (C : Addr) (cl : List (Str × Addr)) (fp : List Addr), SG (X.blk s H scope (compEnvC scope cl C X.env) fp) G tg g is) (hown : ∀ i ∈ is, i ∈ vs)
    (st : ∀ (s : Shared) (H : Hp) (C : Addr) (cl : List (Str × Addr)) (fp : List Addr), STs (X.blk s H scope (compEnvC scope cl C X.env) fp) G W0 ifs tt)
    (se : ∀ (s : Shared) (H : Hp) (C : Addr) (cl : List (Str × Addr)) (fp : List Addr), SE (X.blk s H scope (compEnvC scope cl C X.env) fp) G W0 elt te)
    {ρ : Nat → Addr} {σs : SEnv} {h : Hs} {σ : L2.St} {H : Hp} {Q : VK} (hE : REnv (zOf X G) ρ h.length H σs σ) (hR : RHp (zOf X G) ρ h H) (hP : PostE (zOf X G) W ρ h H σ (rLc vs ri g tt te σs h) Q) :
    tLc (tAnyI X tg iter) (gAll X scope tg) (tsAll X scope ifs) (eAll X scope elt) vs σ H Q := by
  refine si ρ σs h σ H _ hE hR (hP.fst fun p h1 ρ1 H1 J _ E1 R1 hJ p1 D hD => ?_)
  have hJ := hJ h1 rfl R1
  have hEw := renv_wipe (hE.ext hR E1) vs
  have hD1 : ∀ i, i < h1.length → ρ1 i ≠ D := fun i hi => R1.ne hD hi
  let Fin : Out (List SV) → Prop := fun r => match r with
    | .ok acc h => PostE (zOf X G) W ρ1 h1 H1 σ (.ok (.ref h.length) (h ++ [.lst acc])) Q
    | _ => False
  have p1' : Fin (lcGo g tt te p.2 (wipeS σs vs) p.1 h1 []) := by
    cases e : lcGo g tt te p.2 (wipeS σs vs) p.1 h1 [] with
    | ok acc h => rw [e] at p1; exact p1
    | exc c fs h => rw [e] at p1; exact p1.elim
    | stuck => rw [e] at p1; exact p1.elim
  let Wd : Nat → Hp → Prop := fun i H' => ∃ ρ2 h2 acc ws, Gro ρ1 h1 H1 ρ2 h2 H' ∧ RHp (zOf X G) ρ2 h2 H' ∧ H' D = some (.lst ws) ∧ (∀ i, i < h2.length → ρ2 i ≠ D) ∧ RVs (zOf X G) ρ2 h2.length H' acc ws ∧
    Fin (lcGo g tt te p.2 (wipeS σs vs) (p.1.drop i) h2 acc)
  refine ⟨fun i m H' => m = p.1.length - i ∧ i ≤ p.1.length ∧ Wd i H', ⟨p.1.length, by simp, Nat.zero_le _, ρ1, h1, [], [], Gro.lay hD, R1.lay hD, upd_same, hD1, .nil, p1'⟩, ?_⟩
  rintro i m H2 ⟨rfl, hi, ρ2, h2, acc, ws, E2, R2, hD2, ne2, ta, p2⟩
  by_cases hlt : i < p.1.length
  · right
    rw [List.drop_eq_getElem_cons hlt] at p2
    unfold lcGo at p2
    split at p2
    · rename_i hc
      obtain ⟨hgo, hy⟩ := hJ.turn i p.1[i] ρ2 h2 H2 E2 R2 hc.1 (by simp [hlt])
      refine ⟨hgo, Wd (i + 1), fun H' q => ⟨_, by omega, rfl, hlt, q⟩, fun x H3 y => ?_⟩
      obtain ⟨R3, E3, v3⟩ := hy x H3 y
      have hD3 : H3 D = some (.lst ws) := E3.fr D _ hD2 ne2
      split at p2
      · exact p2.elim
      · rename_i σ2 e1
        intro s0 H0 C0 cl0 fp0
        have hEw3 : REnv (zOf X G) ρ2 h2.length H3 (wipeS σs vs) (wipe σ vs) := (hEw.ext R1 E2).ext R2 E3
        refine sg s0 H0 C0 cl0 fp0 ρ2 _ _ σ2 _ _ H3 x _ hEw3 v3 e1 fun σ3 ws3 q3 => ⟨by rw [ws3 vs hown, wipe_idem], ?_⟩
        intro s1 H1' C1 cl1 fp1
        refine st s1 H1' C1 cl1 fp1 ρ2 σ2 h2 σ3 H3 _ q3 R3 ?_
        cases ht : tt σ2 h2 with
        | exc c fs h => rw [ht] at p2; exact p2.elim
        | stuck => rw [ht] at p2; exact p2.elim
        | ok b h3 =>
          intro ρ3 H4 b' E4 R4 eb
          have eb' : b = b' := eb
          subst eb'
          have hD4 : H4 D = some (.lst ws) := E4.fr D _ hD3 ne2
          have ne3 : ∀ i, i < h3.length → ρ3 i ≠ D := fun i hi z => by
            by_cases hl : i < h2.length
            · exact ne2 i hl ((E4.agree i hl).symm.trans z)
            · have w := E4.fresh i (Nat.not_lt.mp hl) hi
              rw [z, hD3] at w; cases w
          cases b with
          | false =>
            rw [ht] at p2
            dsimp only at p2
            rw [if_neg Bool.false_ne_true]
            obtain ⟨a1, a2, a3⟩ := gcV_ok (m := 0) R3 R4 E4
            refine ⟨ρ3, gcV h2 0 h3, acc, ws, (E2.trans R2 E3).trans R3 a2, a1, hD4, fun i hi => ne3 i ?_, (ta.ext R2 E3).ext R3 a2, p2⟩
            rcases a3 with e | ⟨e, _⟩
            · rw [← e]; exact hi
            · rw [e] at hi; exact Nat.lt_of_lt_of_le hi E4.len
          | true =>
            rw [ht] at p2
            dsimp only at p2
            rw [if_pos rfl]
            intro s2 H2' C2 cl2 fp2
            refine se s2 H2' C2 cl2 fp2 ρ3 σ2 h3 σ3 H4 _ (q3.ext R3 E4) R4 ?_
            cases hte : te σ2 h3 with
            | exc c fs h => rw [hte] at p2; exact p2.elim
            | stuck => rw [hte] at p2; exact p2.elim
            | ok y h4 =>
              rw [hte] at p2
              intro ρ4 H5 yv E5 R5 r5
              have hD5 : H5 D = some (.lst ws) := E5.fr D _ hD4 ne3
              have ne4 : ∀ i, i < h4.length → ρ4 i ≠ D := fun i hi z => by
                by_cases hl : i < h3.length
                · exact ne3 i hl ((E5.agree i hl).symm.trans z)
                · have w := E5.fresh i (Nat.not_lt.mp hl) hi
                  rw [z, hD4] at w; cases w
              have E45 := E4.trans R4 E5
              obtain ⟨a1, a2, a3⟩ := gcV_ok (m := y.mx) R3 R5 E45
              have ne5 : ∀ i, i < (gcV h2 y.mx h4).length → ρ4 i ≠ D := fun i hi => ne4 i (by
                rcases a3 with e | ⟨e, _⟩
                · rw [← e]; exact hi
                · rw [e] at hi; exact Nat.lt_of_lt_of_le hi E45.len)
              refine ⟨ws, hD5, ?_, ρ4, gcV h2 y.mx h4, acc ++ [y], ws ++ [yv], ?_, a1.off hD5 ne5, upd_same, ne5, ?_, p2⟩
              · rw [← ta.length, lim_eq]; have := hc.2; omega
              · have G0 := (E2.trans R2 E3).trans R3 a2
                refine ⟨G0.len, G0.agree, fun a o e hx => ?_, G0.fresh⟩
                rw [upd_ne (ne_of_none e hD)]
                exact G0.fr a o e hx
              · have t5 := (ta.ext R2 E3).ext R3 a2
                exact (t5.app (.cons (r5.gc a3) .nil)).ext' (keep_off hD5) (Nat.le_refl _) fun _ _ => rfl
    · exact p2.elim
  · left
    have e : i = p.1.length := by omega
    subst e
    rw [List.drop_length] at p2
    unfold lcGo at p2
    split at p2
    · rename_i hc
      refine ⟨hJ.stop ρ2 h2 H2 E2 R2 hc, ?_⟩
      refine PostG.at (v := SV.ref h2.length) ?_ (R2.adopt hD2 ne2 ta) ?_ (show PostE (zOf X G) W ρ1 h1 H1 σ (.ok (.ref h2.length) (h2 ++ [.lst acc])) Q from p2)
      · refine ⟨by have := E2.len; simp; omega, fun i hi => ?_, E2.fr, fun j h1' h2' => ?_⟩
        · rw [putA_lt (Nat.lt_of_lt_of_le hi E2.len)]; exact E2.agree i hi
        · by_cases hj : j < h2.length
          · rw [putA_lt hj]; exact E2.fresh j h1' hj
          · have : j = h2.length := by simp at h2'; omega
            subst this
            rw [putA_same]; exact hD
      · have e : RV (zOf X G) (putA ρ2 h2.length D) (h2 ++ [SO.lst acc]).length H2 (.ref h2.length) (.ref (putA ρ2 h2.length D h2.length)) := .ref (by simp)
        rw [putA_same] at e; exact e
    · exact p2.elim
theorem se_lc {elt iter : Expr} {ifs : List Expr} {scope : Scope} (own : List (Str × Nat)) {ri : IF} {g : GF} {te : EF} {is : List Nat} (ok : XOk X W) (si : SI X G W tg iter ri) (bo : blkC X.N X.env.scope scope own = true)
    (sg : ∀ (s : Shared) (H : Hp) (C : Addr) (cl : List (Str × Addr)) (fp : List Addr), XOk (X.blk s H scope (compEnvC scope cl C X.env) fp) W0 → SG (X.blk s H scope (compEnvC scope cl C X.env) fp) G tg g is) (hown : is.all (fun i => (own.map (·.2)).contains i) = true)
    (st : ∀ (s : Shared) (H : Hp) (C : Addr) (cl : List (Str × Addr)) (fp : List Addr), XOk (X.blk s H scope (compEnvC scope cl C X.env) fp) W0 → STs (X.blk s H scope (compEnvC scope cl C X.env) fp) G W0 ifs tt)
    (se : ∀ (s : Shared) (H : Hp) (C : Addr) (cl : List (Str × Addr)) (fp : List Addr), XOk (X.blk s H scope (compEnvC scope cl C X.env) fp) W0 → SE (X.blk s H scope (compEnvC scope cl C X.env) fp) G W0 elt te)
    (hs : ∀ x, foldedSetIterable iter X.env x = pure x := by intro _; rfl) : SE X G W (.ListComp elt [⟨tg, iter, ifs, 0⟩] scope pos) (rLc (own.map (·.2)) ri g tt te) :=
  se_pe (pe_lc (own := own) (g := gAll X scope tg) (tt := tsAll X scope ifs) (te := eAll X scope elt) ok.calm ok.nd pi_any (blkOk_by bo) (fun s H C cl fp => ⟨fun pins s' σ H v u Q I r q => q s _ C cl fp pins s' u I r⟩) (fun s H C cl fp => ⟨fun pins s' σ H Q I q => q s _ C cl fp pins s' I⟩) (fun s H C cl fp => ⟨fun pins s' σ H Q I q => q s _ C cl fp pins s' I⟩) hs)
    fun ρ σs h σ H Q hE hR hP => lc_post si (fun s H C cl fp => sg s H C cl fp ok.blk) (fun i hi => by have := List.all_eq_true.mp hown i hi; simpa using this) (fun s H C cl fp => st s H C cl fp ok.blk) (fun s H C cl fp => se s H C cl fp ok.blk) hE hR hP
/-- name = [..] on one line -/
theorem ss_lc {i : Nat} {y : Str} {py : Pos} {spos : Pos} {elt iter : Expr} {ifs : List Expr} {scope : Scope} (own : List (Str × Nat)) {ri : IF} {g : GF} {te : EF} {is : List Nat} (ok : XOk X W) (hy : X.N[i]? = some y) (hyl : X.env.scope.names.lookup y = some .local)
    (hsw : swapsWith (.ListComp elt [⟨tg, iter, ifs, 0⟩] scope pos) (some (.Name y py)) spos.line X.env = pure true) (si : SI X G W tg iter ri) (bo : blkC X.N X.env.scope scope own = true)
    (sg : ∀ (s : Shared) (H : Hp) (C : Addr) (cl : List (Str × Addr)) (fp : List Addr), XOk (X.blk s H scope (compEnvC scope cl C X.env) fp) W0 → SG (X.blk s H scope (compEnvC scope cl C X.env) fp) G tg g is) (hown : is.all (fun i => (own.map (·.2)).contains i) = true)
    (st : ∀ (s : Shared) (H : Hp) (C : Addr) (cl : List (Str × Addr)) (fp : List Addr), XOk (X.blk s H scope (compEnvC scope cl C X.env) fp) W0 → STs (X.blk s H scope (compEnvC scope cl C X.env) fp) G W0 ifs tt)
    (se : ∀ (s : Shared) (H : Hp) (C : Addr) (cl : List (Str × Addr)) (fp : List Addr), XOk (X.blk s H scope (compEnvC scope cl C X.env) fp) W0 → SE (X.blk s H scope (compEnvC scope cl C X.env) fp) G W0 elt te)
    (hs : ∀ x, foldedSetIterable iter X.env x = pure x := by intro _; rfl) : SS X G W (.Assign [.Name y py] (.ListComp elt [⟨tg, iter, ifs, 0⟩] scope pos) spos) (sAsg (rLc (own.map (·.2)) ri g tt te) (gNm i)) := .of fun ρ σs h σ H D hE hR hP =>
  any_ps (ps_setLc (own := own) (g := gAll X scope tg) (tt := tsAll X scope ifs) (te := eAll X scope elt) ok.calm ok.nd hy hyl hsw pi_any (blkOk_by bo) (fun s H C cl fp => ⟨fun pins s' σ H v u Q I r q => q s _ C cl fp pins s' u I r⟩) (fun s H C cl fp => ⟨fun pins s' σ H Q I q => q s _ C cl fp pins s' I⟩) (fun s H C cl fp => ⟨fun pins s' σ H Q I q => q s _ C cl fp pins s' I⟩) hs)
    (lc_post si (fun s H C cl fp => sg s H C cl fp ok.blk) (fun i hi => by have := List.all_eq_true.mp hown i hi; simpa using this) (fun s H C cl fp => st s H C cl fp ok.blk) (fun s H C cl fp => se s H C cl fp ok.blk) hE hR
      (PostS.expr hE hR hP fun v h1 ρ1 H1 x _ E1 R1 v1 p1 => p1 ρ1 H1 _ Gro.refl R1 (renv_set (hE.ext hR E1) v1 i)))
end
end Pz

set_option Elab.async false
set_option linter.all false
set_option maxRecDepth 100000
set_option maxHeartbeats 1000000
namespace Pz
open PySem PySem.Spec L2

/-! ### defs -/
abbrev FF := List SV → Hs → Out SV
def finF (h : Hs) (r : OS) : Out SV := match r with
  | .nx _ h' => .ok .non (gcV h 0 h')
  | .rt v h' => .ok v (gcV h v.mx h')
  | .exc c fs _ h' => .exc c fs (gcV h (fmx fs) h')
  | _ => .stuck
def startS (n : Nat) (vs : List SV) : SEnv := vs.map some ++ List.replicate (n - vs.length) none
def mkF (n : Nat) (body : SF) : FF := fun vs h =>
  if SV.mxs vs = 0 then (match finF [] (body (startS n vs) []) with
    | .ok v [] => .ok v h
    | .exc c fs [] => .exc c fs h
    | _ => finF h (body (startS n vs) h)) else finF h (body (startS n vs) h)
/-- what a call wants -/
abbrev WE (E : XK) : WX := fun cls d _ H => E cls d H
structure FnG (P : Program) (w : World) (K : PySem.W.Frag) (mg : Str → Option Value) (base : Heap) (G : Nat → Addr) (k : Nat) (f : Addr) (fd : FuncData) (ps : List Str) (F : FF) : Prop where
  run : ∀ (A : Around) (outer : List PySem.Env) (s : Shared) (H : Hp) (args : Args) (us : List Value) (vs : List V) (ρ : Nat → Addr) (h : Hs) (svs : List SV) (Q : VK) (E : XK), Room k A → A.guards = some [] → Env0 P w K mg base A outer s H →
    BindsTo s fd args (ps.zip us) → Vals vs us → RHp ⟨P, w, K, G⟩ ρ h H → RVs ⟨P, w, K, G⟩ ρ h.length H svs vs → svs.length = ps.length → PostE ⟨P, w, K, G⟩ (WE E) ρ h H [] (F svs h) Q →
    codeAny (model P w) A (.call (.ref f) args) (CR (L2.CX P w) outer P w H s Q E) s
theorem FnG.mono {P : Program} {w : World} {K : PySem.W.Frag} {mg : Str → Option Value} {base : Heap} {G : Nat → Addr} {j k : Nat} {f : Addr} {fd : FuncData} {ps : List Str} {F : FF} (g : FnG P w K mg base G j f fd ps F) (h : j ≤ k) : FnG P w K mg base G k f fd ps F :=
  ⟨fun A o s H a us vs ρ h' svs Q E hr => g.run A o s H a us vs ρ h' svs Q E (hr.mono h)⟩
section
variable {Z : Cz} {W : WX} {ρ : Nat → Addr} {h : Hs} {H : Hp} {σ : L2.St} {Q : VK}
theorem RVs.up0 {m : Nat} {ρ' : Nat → Addr} {vs : List SV} {xs : List V} (t : RVs Z ρ' m H vs xs) (e : SV.mxs vs = 0) : RVs Z ρ 0 H vs xs := by
  have t0 : RVs Z ρ' 0 H vs xs := t.cut (by omega)
  exact t0.ext' (fun _ _ e _ => e) (Nat.le_refl _) fun i hi => absurd hi (Nat.not_lt_zero _)
theorem RHp.nil {ρ : Nat → Addr} : RHp Z ρ [] H := ⟨fun i o e => by simp at e, fun i j hi => absurd hi (by simp)⟩
theorem gro_nil {ρ' : Nat → Addr} {H' : Hp} (R : RHp Z ρ h H) (E : Gro ρ [] H ρ' [] H') : Gro ρ h H ρ h H' ∧ RHp Z ρ h H' := by
  have all : ∀ a o, H a = some o → H' a = some o := fun a o e => E.fr a o e fun i hi => absurd hi (by simp)
  refine ⟨⟨Nat.le_refl _, fun _ _ => rfl, fun a o e _ => all a o e, fun j h1 h2 => absurd h2 (Nat.not_lt.mpr h1)⟩, ⟨fun i o e => ?_, R.inj⟩⟩
  have q := R.apart (List.getElem?_eq_some_iff.mp e).1
  cases eo : H (ρ i) with
  | none => exact absurd eo q.2.2.1
  | some u => exact (R.ob i o e).ext' (fun a o e _ => all a o e) (Nat.le_refl _) (fun _ _ => rfl) (by rw [eo]; exact all _ _ eo)
/-- from the body's end to the call's -/
theorem fin_post {r : OS} {E : XK} {D : Ends} (R : RHp Z ρ h H) (hn : ∀ σ' H', Q .non H' → D.nx σ' H') (hr : ∀ v H', Q v H' → D.rt v H') (hP : PostE Z (WE E) ρ h H [] (finF h r) Q) : PostS Z (WE E) ρ h H r D := by
  cases r with
  | nx σ h' =>
    intro ρ' H' σ' E1 R1 q
    obtain ⟨a1, a2, _⟩ := gcV_ok (m := 0) R R1 E1
    exact hn _ _ (hP ρ' H' .non a2 a1 .non)
  | rt v h' =>
    intro ρ' H' x E1 R1 q
    obtain ⟨a1, a2, a3⟩ := gcV_ok (m := v.mx) R R1 E1
    exact hr _ _ (hP ρ' H' x a2 a1 (q.gc a3))
  | exc c fs σ h' =>
    intro σ' ρ' H' d xs E1 R1 _ e q
    obtain ⟨a1, a2, a3⟩ := gcV_ok (m := fmx fs) R R1 E1
    refine hP ρ' H' d xs a2 a1 ⟨e.at', e.new, fun i hi => e.off i (by
      rcases a3 with z | ⟨z, _⟩
      · rw [← z]; exact hi
      · rw [z] at hi; exact Nat.lt_of_lt_of_le hi E1.len)⟩ ?_
    rcases a3 with z | ⟨z, hm⟩
    · rw [z]; exact q
    · exact q.cut (by rw [z]; exact hm)
  | bk σ h' => exact hP.elim
  | ct σ h' => exact hP.elim
  | stuck => exact hP.elim
theorem mk_post {n : Nat} {body : SF} {vs : List SV} {xs : List V} {E : XK} {D : Ends} (R : RHp Z ρ h H) (t : RVs Z ρ h.length H vs xs) (hn : ∀ σ' H', Q .non H' → D.nx σ' H') (hr : ∀ v H', Q v H' → D.rt v H')
    (hP : PostE Z (WE E) ρ h H [] (mkF n body vs h) Q) : ∃ h0, (h0 = h ∨ (h0 = [] ∧ SV.mxs vs = 0)) ∧ PostS Z (WE E) ρ h0 H (body (startS n vs) h0) D := by
  unfold mkF at hP
  split at hP
  · rename_i e0
    split at hP
    · rename_i v e1
      refine ⟨[], .inr ⟨rfl, e0⟩, fin_post (Q := Q) RHp.nil hn hr ?_⟩
      rw [e1]
      intro ρ' H' x E1 R1 q
      obtain ⟨a1, a2⟩ := gro_nil R E1
      refine hP ρ H' x a1 a2 ?_
      exact q.ext' (fun _ _ e _ => e) (Nat.zero_le _) fun i hi => absurd hi (by simp)
    · rename_i c fs e1
      refine ⟨[], .inr ⟨rfl, e0⟩, fin_post (Q := Q) RHp.nil hn hr ?_⟩
      rw [e1]
      intro ρ' H' d xs' E1 R1 e q
      obtain ⟨a1, a2⟩ := gro_nil R E1
      exact hP ρ H' d xs' a1 a2 ⟨e.at', e.new, fun i hi z => (R.apart hi).2.2.1 (z ▸ e.new)⟩ (q.ext' (fun _ _ e _ => e) (Nat.zero_le _) fun i hi => absurd hi (by simp))
    · exact ⟨h, .inl rfl, fin_post R hn hr hP⟩
  · exact ⟨h, .inl rfl, fin_post R hn hr hP⟩
theorem start_env {n : Nat} : ∀ {vs : List SV} {xs : List V} {m : Nat}, RVs Z ρ m H vs xs → (N : List Str) → N.length = n → REnv Z ρ m H (startS n vs) (L2.start N xs) := fun {vs xs m} t N hN => by
  have hl := t.length
  refine ⟨by unfold startS L2.start; simp [hl, hN], fun j x e => ?_⟩
  unfold startS at e
  unfold L2.start
  by_cases hj : j < vs.length
  · rw [List.getElem?_append_left (by simpa using hj), List.getElem?_map, Option.map_eq_some_iff] at e
    obtain ⟨y, e1, e2⟩ := e
    cases e2
    obtain ⟨v, e3, r⟩ := t.get e1
    exact ⟨v, by rw [List.getElem?_append_left (by simp; omega), List.getElem?_map, e3]; rfl, r⟩
  · rw [List.getElem?_append_right (by simpa using Nat.not_lt.mp hj), List.getElem?_replicate] at e
    split at e <;> cases e
end

section
variable {P : Program} {w : World} {K : PySem.W.Frag} {mg : Str → Option Value} {base : Heap} {G : Nat → Addr}
/-- the context of a def's body -/
theorem xok_def {N ps : List Str} {qual : Str} {sc : Scope} {f : Addr} {cd : Value} {A : Around} {outer : List PySem.Env} {s : Shared} {H : Hp} {E : XK} {k : Nat} (S : FnScope N ps sc) (hr : Room k (A.deeper (PyProof.Rows.envOfC qual sc s.heap.objs.size f cd))) (hg : A.guards = some []) :
    XOk (cxOf (L2.CX P w) P w K mg base N qual sc f cd A outer s H E) (WE E) where
  nd := S.nd
  calm := rfl
  tk := takes_of rfl rfl rfl rfl
  po := passes_of rfl
  gd := hg
  hu := by
    have h1 := hr.un
    show (A.deeper (PyProof.Rows.envOfC qual sc s.heap.objs.size f cd)).units + 200 < cLine
    omega
theorem fng_of {k : Nat} {f : Addr} {x qual : Str} {st : Stmt} {fd : FuncData} {N ps : List Str} {n : Nat} {body : SF} (F : Fun K x qual st f fd) (S : FnScope N ps (defScope st)) (hn : N.length = n)
    (hb : ∀ (cd : Value) (A : Around) (outer : List PySem.Env) (s : Shared) (H : Hp) (E : XK), Room k (A.deeper (PyProof.Rows.envOfC qual (defScope st) s.heap.objs.size f cd)) →
      XOk (cxOf (L2.CX P w) P w K mg base N qual (defScope st) f cd A outer s H E) (WE E) → SSs (cxOf (L2.CX P w) P w K mg base N qual (defScope st) f cd A outer s H E) G (WE E) (defBody st) body) :
    FnG P w K mg base G (k + 1) f fd ps (mkF n body) := by
  obtain ⟨oc, od, kV, doc, pm, an, cdv, ct, osl, rfl, lk, hcd⟩ := F.ex
  refine ⟨fun A outer s H args us vs ρ h svs Q E room guard e0 bind rv R t hlen hP => ?_⟩
  have inK : K.In s.heap := e0.mod.kin.keeps fun b o e => (e0.bs b o e).1
  have noLim : s.heap.NoLimit := e0.mod.nolimit.keeps fun b o e => (e0.bs b o e).1
  have hvl : vs.length = ps.length := by rw [← t.length]; exact hlen
  refine codeAny_call_function room.depth (inK _ _ lk) rfl S.co S.gen rfl (PySem.W.codeRec_of inK hcd) (bind _ _ _ _ ?_)
  refine wpAny_newFunctionEnv_cells S.kind (fun ⟨nm, v⟩ hy => ?_) fun env he s1 inC => ?_
  · rcases S.par nm (List.of_mem_zip hy).1 with q | q
    · exact .inl q
    · exact .inr ⟨q, PySem.W.cellsFrom_some _ _ _ (.inl q)⟩
  · subst he
    refine ⟨noLim.keeps inC.toInCall.keep, codeAny_func ?_⟩
    have rm := room.deeper (PyProof.Rows.envOfC qual (defScope st) s.heap.objs.size f cdv)
    have I0 : Inv (cxOf (L2.CX P w) P w K mg base N qual (defScope st) f cdv A outer s H E) [] (L2.start N vs) H s1 := inv_start S room.hd e0 hvl rv inC
    obtain ⟨h0, hh0, hS⟩ := mk_post (D := { nx := fun _ H' => Q .non H', rt := Q }) R t (fun _ _ q => q) (fun _ _ q => q) hP
    have R0 : RHp ⟨P, w, K, G⟩ ρ h0 H := by
      rcases hh0 with rfl | ⟨rfl, _⟩
      · exact R
      · exact RHp.nil
    have t0 : RVs ⟨P, w, K, G⟩ ρ h0.length H svs vs := by
      rcases hh0 with rfl | ⟨rfl, e⟩
      · exact t
      · exact t.up0 e
    have go := hb cdv A outer s H E rm (xok_def S rm guard) ρ (startS n svs) h0 (L2.start N vs) H { nx := fun _ H' => Q .non H', rt := Q } (start_env t0 N hn) R0 hS [] s1 I0
    refine wpAny_mono go (fun fl s' hs => ?_) fun e s' hs => hs
    cases fl with
    | ret u =>
      obtain ⟨v, σ', H', J, r, q⟩ := hs
      exact ⟨v, H', J.os, J.bare, J.base, J.hok, r, q⟩
    | next =>
      obtain ⟨σ', H', J, q⟩ := hs
      exact ⟨V.non, H', J.os, J.bare, J.base, J.hok, rfl, q⟩
    | brk => obtain ⟨_, _, _, q⟩ := hs; exact q.elim
    | cont => obtain ⟨_, _, _, q⟩ := hs; exact q.elim
end
end Pz

set_option Elab.async false
set_option linter.all false
set_option maxRecDepth 100000
set_option maxHeartbeats 1000000
namespace Pz
open PySem PySem.Spec L2

/-! ### calls -/
/-- the defaults that fill up -/
def Dfl (X : Cx) (G : Nat → Addr) (dv : List SV) (ds : List Value) : Prop := ∃ xs, Vals xs ds ∧ ∀ ρ n H, RVs (zOf X G) ρ n H dv xs
theorem dfl_nil {X : Cx} {G : Nat → Addr} : Dfl X G [] [] := ⟨[], .nil, fun _ _ _ => .nil⟩
section
variable {X : Cx} {G : Nat → Addr} {W : WX} {pos p apos : Pos} {e o : Expr} {es : List Expr} {ra : EF} {re : LF} {k : Nat} {f C : Addr} {fd : FuncData} {ps : List Str} {F : FF} {dv : List SV} {ds : List Value} {x m : Str}
theorem post_we {Z : Cz} {ρ : Nat → Addr} {h : Hs} {H : Hp} {σ : L2.St} {r : Out SV} {Q : VK} (hP : PostE Z W ρ h H σ r Q) : PostE Z (WE fun c d H => W c d σ H) ρ h H [] r Q := by
  cases r with
  | ok v h => exact hP
  | exc c fs h => exact fun ρ' H' d xs E1 R1 e q => hP ρ' H' d xs E1 R1 e q
  | stuck => exact hP
theorem runG {pins : List (Addr × Obj)} {σ : L2.St} {H : Hp} {s : Shared} {Q : VK} {us : List Value} {vs : List V} {svs : List SV} {ρ : Nat → Addr} {h : Hs} (g : FnG X.prog X.w X.K X.mg X.base G k f fd ps F) (ok : XOs X W) (hr : Room k X.A) (hb : Binds X.K fd ps ds) (hd : Dfl X G dv ds)
    (I : Inv X pins σ H s) (r : Vals vs us) (R : RHp (zOf X G) ρ h H) (t : RVs (zOf X G) ρ h.length H svs vs) (hlen : svs.length + dv.length = ps.length) (hP : PostE (zOf X G) W ρ h H σ (F (svs ++ dv) h) Q) : wpAny (model X.prog X.w) X.A (call (.ref f) us) (EP X pins σ Q) X.xe s := by
  obtain ⟨xs, rd, td⟩ := hd
  have r2 : Vals (vs ++ xs) (us ++ ds) := r.append rd
  have t2 := t.app (td ρ h.length H)
  have hl : (us ++ ds).length = ps.length := by rw [← r2.length, ← t2.length, List.length_append]; exact hlen
  refine wpAny_call (codeAny_mono (g.run X.A X.stack s H ⟨us, []⟩ (us ++ ds) (vs ++ xs) ρ h (svs ++ dv) Q (fun c d H => W c d σ H) hr ok.gd I.env0 (hb s us I.kIn hl) r2 R t2 (by rw [List.length_append]; exact hlen) (post_we hP)) fun r s' hq => ?_)
  cases r with
  | error e => exact ok.tk e s' (XE.of_call I (fun _ _ _ z => z) hq)
  | ok fl =>
    cases fl with
    | ret u => exact I.after hq
    | next => exact False.elim hq
    | brk => exact False.elim hq
    | cont => exact False.elim hq
def rCall (F : FF) (n : Nat) (dv : List SV) (re : LF) : EF := fun σ h => (re σ h).bnd fun vs h => if vs.length + dv.length = n then F (vs ++ dv) h else .stuck
theorem se_call (g : FnG X.prog X.w X.K X.mg X.base G k f fd ps F) (ok : XOs X W) (hr : Room k X.A) (hm : X.mg x = some (.ref f)) (hk : PySem.W.keepIn X.K (.ref f) = true) (hb : Binds X.K fd ps ds) (hd : Dfl X G dv ds) (sl : SA X G W (e :: es) re) (hg : Gl X x := by rfl)
    (hdb : (x == ("__debug__" : Str)) = false := by decide) (he : starEach (e :: es) X.env = (false, eval e X.env) :: starEach es X.env := by rfl) (hpl : (backTo pos (starEach es X.env)).any (·.1) = false := by rfl) :
    SE X G W (.Call (.Name x p) (e :: es) [] pos) (rCall F ps.length dv re) := .of fun ρ σs h σ H Q hE hR hP pins s I => by
  refine wpAny_Call_Name_kw (ld_glob I hg hm ?_ hdb)
  refine PySem.W.callWith_K (h₀ := X.base) I.ok.mod.kin hk (thn (sl ρ σs h σ H (fun vs H1 => ∀ (pins : List (Addr × Obj)) (s : Shared) (us : List Value), Inv X pins σ H1 s → Vals vs us → wpAny (model X.prog X.w) X.A (call (.ref f) us) (EP X pins σ Q) X.xe s) hE hR (hP.fst fun vs h1 ρ1 H1 xs _ E1 R1 v1 p1 pins s us I r => ?_) pos pins s I) fun us s1 ⟨vs, H1, I1, r, q⟩ => ⟨I1.kIn, q pins s1 us I1 r⟩) he hpl
  split at p1
  · rename_i hl
    exact runG g ok hr hb hd I r R1 v1 hl p1
  · exact p1.elim
theorem se_call0 (g : FnG X.prog X.w X.K X.mg X.base G k f fd ps F) (ok : XOs X W) (hr : Room k X.A) (hm : X.mg x = some (.ref f)) (hk : PySem.W.keepIn X.K (.ref f) = true) (hb : Binds X.K fd ps ds) (hd : Dfl X G dv ds) (hg : Gl X x := by rfl)
    (hdb : (x == ("__debug__" : Str)) = false := by decide) : SE X G W (.Call (.Name x p) [] [] pos) (rCall F ps.length dv lNil) := .of fun ρ σs h σ H Q hE hR hP pins s I => by
  refine wpAny_Call_Name_kw (ld_glob I hg hm ?_ hdb)
  refine PySem.W.callWith_K0 I.kIn hk ?_
  unfold rCall lNil at hP
  rw [Out.bnd_ok] at hP
  split at hP
  · rename_i hl
    exact runG (us := []) g ok hr hb hd I .nil hR .nil hl hP
  · exact hP.elim

/-! ### instances -/
theorem RF.lookup {Z : Cz} {ρ : Nat → Addr} {n : Nat} {H : Hp} {f : Str} : ∀ {fs : List (Str × SV)} {vs : List (Str × V)}, RF Z ρ n H fs vs → (∀ v, fs.lookup f = some v → ∃ x, vs.lookup f = some x ∧ RV Z ρ n H v x) ∧ (fs.lookup f = none → vs.lookup f = none)
  | _, _, .nil => ⟨fun v e => by simp at e, fun _ => rfl⟩
  | _, _, .cons (f := g) r t => by
    obtain ⟨i1, i2⟩ := RF.lookup (f := f) t
    simp only [List.lookup_cons]
    cases hb : f == g with
    | true => exact ⟨fun v e => by simp at e; subst e; exact ⟨_, rfl, r⟩, fun e => by simp at e⟩
    | false => exact ⟨i1, i2⟩
def putFS (f : Str) (v : SV) : List (Str × SV) → List (Str × SV)
  | [] => [(f, v)]
  | (g, u) :: r => if g = f then (g, v) :: r else (g, u) :: putFS f v r
theorem RF.len {Z : Cz} {ρ : Nat → Addr} {n : Nat} {H : Hp} : ∀ {fs : List (Str × SV)} {vs : List (Str × V)}, RF Z ρ n H fs vs → fs.length = vs.length
  | _, _, .nil => rfl
  | _, _, .cons _ t => by simp [RF.len t]
/-- o.f -/
def rFld (cs : List Nat) (f : Str) (ra : EF) : EF := fun σ h => (ra σ h).bnd fun v h => match v with
  | .ref i => (match h[i]? with
    | some (.ins c fs) => if cs.contains c = true then (match fs.lookup f with
      | some u => .ok u h
      | none => .stuck) else .stuck
    | _ => .stuck)
  | _ => .stuck
def FldOk (X : Cx) (G : Nat → Addr) (cs : List Nat) (f : Str) : Prop := ∀ c ∈ cs, Cls X.K (G c) ∧ NoAttr X.K (G c) f
theorem se_fld {f : Str} {cs : List Nat} (ho : FldOk X G cs f) (sa : SE X G W e ra) (hb : attributeBase e f X.env (eval e X.env) = eval e X.env := by rfl) : SE X G W (.Attribute e f pos) (rFld cs f ra) :=
  se_pe (pe_fld pe_any hb) fun ρ σs h σ H Q hE hR hP => sa ρ σs h σ H _ hE hR (hP.fst fun v h1 ρ1 H1 x _ E1 R1 v1 p1 => by
    split at p1
    · cases v1 with | ref hi => ?_
      split at p1
      · rename_i e0
        obtain ⟨_, dx, vs, f0, t⟩ := R1.ins e0
        split at p1
        · rename_i hc
          obtain ⟨h1, h2⟩ := ho _ (by simpa using hc)
          split at p1
          · rename_i e1
            obtain ⟨y, e2, r⟩ := t.lookup.1 _ e1
            exact ⟨_, _, _, _, _, rfl, f0, h1, h2, e2, PostG.ret R1 r p1⟩
          · exact p1.elim
        · exact p1.elim
      · exact p1.elim
    · exact p1.elim)
theorem RF.put {Z : Cz} {ρ : Nat → Addr} {n : Nat} {H : Hp} {f : Str} {v : SV} {x : V} (r : RV Z ρ n H v x) : ∀ {fs : List (Str × SV)} {vs : List (Str × V)}, RF Z ρ n H fs vs → RF Z ρ n H (putFS f v fs) (putF f x vs)
  | _, _, .nil => .cons r .nil
  | _, _, .cons (f := g) q t => by
    unfold putFS putF
    by_cases hg : g = f
    · rw [if_pos hg, if_pos hg]; exact .cons r t
    · rw [if_neg hg, if_neg hg]; exact .cons q (RF.put r t)
/-- o.f = e -/
def sFldS (cs : List Nat) (f : Str) (ro rv : EF) : SF := fun σ h => (rv σ h).st σ fun v h => (ro σ h).st σ fun u h => match u with
  | .ref i => (match h[i]? with
    | some (.ins c fs) => if cs.contains c = true ∧ fs.length < 1000 then .nx σ (h.set i (.ins c (putFS f v fs))) else .stuck
    | _ => .stuck)
  | _ => .stuck
theorem ss_fld {f : Str} {cs : List Nat} {p2 : Pos} {ro rv : EF} (ho : FldOk X G cs f) (so : SE X G W o ro) (sv : SE X G W e rv) (hs : swapsWith e (some (.Attribute o f p2)) pos.line X.env = pure false := by rfl) : SS X G W (.Assign [.Attribute o f p2] e pos) (sFldS cs f ro rv) := .of fun ρ σs h σ H D hE hR hP =>
  any_ps (ps_fld pe_any pe_any hs) (sv ρ σs h σ H _ hE hR (PostS.expr hE hR hP fun v h1 ρ1 H1 y _ E1 R1 v1 p1 =>
    so ρ1 σs h1 σ H1 _ (hE.ext hR E1) R1 (PostS.expr (hE.ext hR E1) R1 p1 fun u h2 ρ2 H2 x _ E2 R2 v2 p2 => by
      split at p2
      · cases v2 with | ref hi => ?_
        split at p2
        · rename_i e0
          obtain ⟨_, dx, vs, f0, t⟩ := R2.ins e0
          split at p2
          · rename_i hc
            obtain ⟨h1, h2⟩ := ho _ (by simpa using hc.1)
            refine ⟨_, _, _, _, rfl, f0, h1, h2, by rw [← t.len]; exact hc.2, ?_⟩
            exact p2 ρ2 _ σ (Gro.wr hi) (R2.wr hi ⟨dx, _, upd_same, (t.put (v1.ext R1 E2)).ext' (keep_wr R2 hi) (Nat.le_refl _) fun _ _ => rfl⟩) (((hE.ext hR E1).ext R1 E2).ext R2 (Gro.wr hi))
          · exact p2.elim
        · exact p2.elim
      · exact p2.elim)))
/-- o.m(e, ..) -/
def rMeth (c : Nat) (m : Str) (F : FF) (n : Nat) (dv : List SV) (ra : EF) (re : LF) : EF := fun σ h => (ra σ h).bnd fun v h => match v with
  | .ref i => (match h[i]? with
    | some (.ins c' fs) => if c' = c ∧ fs.lookup m = none then (re σ h).bnd fun vs h => if 1 + vs.length + dv.length = n then F (.ref i :: vs ++ dv) h else .stuck else .stuck
    | _ => .stuck)
  | _ => .stuck
theorem se_meth {c : Nat} {pl : Sem Bool} (sa : SE X G W o ra) (cl : Cls X.K (G c)) (hm : Meth X.K (G c) m f) (g : FnG X.prog X.w X.K X.mg X.base G k f fd ps F) (ok : XOs X W) (hr : Room k X.A) (hb : Binds X.K fd ps ds) (hd : Dfl X G dv ds) (sl : SA X G W (e :: es) re)
    (hst : starEach (e :: es) X.env = (false, eval e X.env) :: starEach es X.env := by rfl) (hpl : (backTo pos (starEach es X.env)).any (·.1) = false := by rfl)
    (ht : eval (.Call (.Attribute o m apos) (e :: es) [] pos) X.env = (do let ov ← eval o X.env; standAt apos.atName; let (f, first) ← holding [ov] (getMethod ov m pl); callWith pos f first (backTo pos (starEach (e :: es) X.env)) (backToKw pos (keywordEach [] X.env))) := by rfl) :
    SE X G W (.Call (.Attribute o m apos) (e :: es) [] pos) (rMeth c m F ps.length dv ra re) := .of fun ρ σs h σ H Q hE hR hP pins s I => by
  refine PySem.W.methodCall_KW (pl := pl) (thn (sa ρ σs h σ H (fun x H1 => ∃ i c' dx fs ρ1 h1, x = .ref (ρ1 i) ∧ H1 (ρ1 i) = some (.ins (G c) dx fs) ∧ fs.lookup m = none ∧ REnv (zOf X G) ρ1 h1.length H1 σs σ ∧ RHp (zOf X G) ρ1 h1 H1 ∧ i < h1.length ∧ c' = c ∧
      PostE (zOf X G) W ρ1 h1 H1 σ ((re σs h1).bnd fun vs h => if 1 + vs.length + dv.length = ps.length then F (.ref i :: vs ++ dv) h else .stuck) Q) hE hR (hP.fst fun v h1 ρ1 H1 x _ E1 R1 v1 p1 => ?_) pins s I) fun u s1 ⟨x, H1, I1, rx, i, c', dx, fs, ρ1, h1, ex, e0, l, q1, R1, hi, ec, p1⟩ => ?_) ht
  · split at p1
    · cases v1 with | ref hi => ?_
      split at p1
      · rename_i e0
        obtain ⟨_, dx, vs, f0, t⟩ := R1.ins e0
        split at p1
        · rename_i hc
          exact ⟨_, _, dx, vs, ρ1, h1, rfl, by rw [← hc.1]; exact f0, t.lookup.2 hc.2, hE.ext hR E1, R1, hi, hc.1, p1⟩
        · exact p1.elim
      · exact p1.elim
    · exact p1.elim
  · subst ex
    obtain rfl : u = Value.ref (ρ1 i) := rx
    refine getmeth_ok I1 e0 cl hm l ?_
    refine PySem.W.callWith_K (first := [.ref (ρ1 i)]) (h₀ := X.base) I.ok.mod.kin hm.kp (thn (sl ρ1 σs h1 σ H1 (fun vs H2 => ∀ (pins : List (Addr × Obj)) (s : Shared) (us : List Value), Inv X pins σ H2 s → Vals vs us → wpAny (model X.prog X.w) X.A (call (.ref f) (.ref (ρ1 i) :: us)) (EP X pins σ Q) X.xe s) q1 R1 (p1.fst fun vs h2 ρ2 H2 xs _ E2 R2 v2 p2 pins s us I r => ?_) pos pins s1 I1) fun us s2 ⟨vs, H2, I2, r, q2⟩ => ⟨I2.kIn, q2 pins s2 us I2 r⟩) hst hpl
    split at p2
    · rename_i hl
      have ra : RV (zOf X G) ρ2 h2.length H2 (.ref i) (.ref (ρ1 i)) := by rw [← E2.agree i hi]; exact .ref (Nat.lt_of_lt_of_le hi E2.len)
      exact runG (us := .ref (ρ1 i) :: us) (vs := .ref (ρ1 i) :: xs) (svs := .ref i :: _) g ok hr hb hd I (.cons rfl r) R2 (.cons ra v2) (by simp; omega) p2
    · exact p2.elim
theorem se_meth0 {c : Nat} {pl : Sem Bool} (sa : SE X G W o ra) (cl : Cls X.K (G c)) (hm : Meth X.K (G c) m f) (g : FnG X.prog X.w X.K X.mg X.base G k f fd ps F) (ok : XOs X W) (hr : Room k X.A) (hb : Binds X.K fd ps ds) (hd : Dfl X G dv ds)
    (ht : eval (.Call (.Attribute o m apos) [] [] pos) X.env = (do let ov ← eval o X.env; standAt apos.atName; let (f, first) ← holding [ov] (getMethod ov m pl); callWith pos f first (backTo pos (starEach [] X.env)) (backToKw pos (keywordEach [] X.env))) := by rfl) :
    SE X G W (.Call (.Attribute o m apos) [] [] pos) (rMeth c m F ps.length dv ra lNil) := .of fun ρ σs h σ H Q hE hR hP pins s I => by
  refine PySem.W.methodCall_KW (pl := pl) (thn (sa ρ σs h σ H (fun x H1 => ∀ (pins : List (Addr × Obj)) (s : Shared), Inv X pins σ H1 s → ∃ a dx fs, x = .ref a ∧ H1 a = some (.ins (G c) dx fs) ∧ fs.lookup m = none ∧ wpAny (model X.prog X.w) X.A (call (.ref f) [.ref a]) (EP X pins σ Q) X.xe s) hE hR (hP.fst fun v h1 ρ1 H1 x _ E1 R1 v1 p1 pins s I => ?_) pins s I) fun u s1 ⟨x, H1, I1, rx, q⟩ => ?_) ht
  · split at p1
    · cases v1 with | ref hi => ?_
      split at p1
      · rename_i e0
        obtain ⟨_, dx, vs, f0, t⟩ := R1.ins e0
        split at p1
        · rename_i hc
          refine ⟨_, dx, vs, rfl, by rw [← hc.1]; exact f0, t.lookup.2 hc.2, ?_⟩
          unfold lNil at p1
          rw [Out.bnd_ok] at p1
          split at p1
          · rename_i hl
            exact runG (svs := [_]) g ok hr hb hd I (show Vals [V.ref _] [Value.ref _] from .cons rfl .nil) R1 (.cons (.ref hi) .nil) (by simpa using hl) p1
          · exact p1.elim
        · exact p1.elim
      · exact p1.elim
    · exact p1.elim
  · obtain ⟨a, dx, fs, ex, e0, l, q1⟩ := q pins s1 I1
    subst ex
    obtain rfl : u = Value.ref a := rx
    refine getmeth_ok I1 e0 cl hm l ?_
    exact PySem.W.callWith_K0 (first := [.ref a]) I1.kIn hm.kp q1
/-- C(e, ..) -/
def rMake (c : Nat) (F : FF) (n : Nat) (dv : List SV) (re : LF) : EF := fun σ h => (re σ h).bnd fun vs h => if 1 + vs.length + dv.length = n then (match F (.ref h.length :: vs ++ dv) (h ++ [.ins c []]) with
  | .ok .non h' => .ok (.ref h.length) h'
  | .exc c' fs h' => .exc c' fs h'
  | _ => .stuck) else .stuck
theorem runMk {fI : Addr} {pins : List (Addr × Obj)} {σ : L2.St} {H : Hp} {s : Shared} {Q : VK} {us : List Value} {vs : List V} {svs : List SV} {ρ : Nat → Addr} {h : Hs} {c : Nat} (M : Mk X.K (G c) fI) (g : FnG X.prog X.w X.K X.mg X.base G k fI fd ps F) (ok : XOs X W) (hr : Room (k + 1) X.A) (hb : Binds X.K fd ps ds) (hd : Dfl X G dv ds)
    (I : Inv X pins σ H s) (r : Vals vs us) (R : RHp (zOf X G) ρ h H) (t : RVs (zOf X G) ρ h.length H svs vs) (hlen : 1 + svs.length + dv.length = ps.length)
    (hP : PostE (zOf X G) W ρ h H σ (match F (.ref h.length :: svs ++ dv) (h ++ [.ins c []]) with | .ok .non h' => .ok (.ref h.length) h' | .exc c' fs h' => .exc c' fs h' | _ => .stuck) Q) : wpAny (model X.prog X.w) X.A (call (.ref (G c)) us) (EP X pins σ Q) X.xe s := by
  obtain ⟨xs, rd, td⟩ := hd
  have f1 : H s.heap.objs.size = none := I.hok.fresh (Nat.le_refl _)
  have f2 : H (s.heap.objs.size + 1) = none := I.hok.fresh (Nat.le_succ _)
  have I2 := Inv.made (C := G c) I
  have ne : s.heap.objs.size + 1 ≠ s.heap.objs.size := Nat.succ_ne_self _
  have f2' : (upd H s.heap.objs.size (.own (s.heap.objs.size + 1))) (s.heap.objs.size + 1) = none := by rw [upd_ne ne]; exact f2
  have R1 := R.lay (u := .own (s.heap.objs.size + 1)) f1
  have E1 : Gro ρ h H ρ h (upd H s.heap.objs.size (.own (s.heap.objs.size + 1))) := Gro.lay f1
  have R2 := R1.push (u := .ins (G c) s.heap.objs.size []) (o := .ins c []) f2' ⟨s.heap.objs.size, [], upd_same, .nil⟩
  have E2 : Gro ρ h (upd H s.heap.objs.size (.own (s.heap.objs.size + 1))) (putA ρ h.length (s.heap.objs.size + 1)) (h ++ [.ins c []]) _ := Gro.push (u := .ins (G c) s.heap.objs.size []) f2'
  have E12 := E1.trans R1 E2
  have t2 : RVs (zOf X G) _ _ _ (svs ++ dv) (vs ++ xs) := (t.ext R E12).app (td _ _ _)
  have rx : RV (zOf X G) (putA ρ h.length (s.heap.objs.size + 1)) (h ++ [SO.ins c []]).length (upd (upd H s.heap.objs.size (.own (s.heap.objs.size + 1))) (s.heap.objs.size + 1) (.ins (G c) s.heap.objs.size [])) (.ref h.length) (.ref (s.heap.objs.size + 1)) := by
    have e : RV (zOf X G) (putA ρ h.length (s.heap.objs.size + 1)) (h ++ [SO.ins c []]).length (upd (upd H s.heap.objs.size (.own (s.heap.objs.size + 1))) (s.heap.objs.size + 1) (.ins (G c) s.heap.objs.size [])) (.ref h.length) (.ref (putA ρ h.length (s.heap.objs.size + 1) h.length)) := .ref (by simp)
    rw [putA_same] at e; exact e
  have r2 : Vals (V.ref (s.heap.objs.size + 1) :: (vs ++ xs)) (Value.ref (s.heap.objs.size + 1) :: (us ++ ds)) := .cons rfl (r.append rd)
  have hl : (Value.ref (s.heap.objs.size + 1) :: us ++ ds).length = ps.length := by
    have e1 := r.length; have e2 := rd.length; have e3 := t.length; have e4 := (td ρ 0 H).length
    simp; omega
  have pp : PostE (zOf X G) (WE fun c d H => W c d σ H) (putA ρ h.length (s.heap.objs.size + 1)) (h ++ [.ins c []]) (upd (upd H s.heap.objs.size (.own (s.heap.objs.size + 1))) (s.heap.objs.size + 1) (.ins (G c) s.heap.objs.size [])) [] (F (.ref h.length :: (svs ++ dv)) (h ++ [.ins c []])) (fun v H' => v = .non ∧ Q (.ref (s.heap.objs.size + 1)) H') := by
    have hP' := PostG.step R2 E12 hP
    rw [List.cons_append] at hP'
    cases hF : F (.ref h.length :: (svs ++ dv)) (h ++ [.ins c []]) with
    | ok v h' =>
      rw [hF] at hP'
      cases v <;> first | exact hP'.elim | skip
      intro ρ' H' x E3 R3 r3
      cases r3
      refine ⟨rfl, hP' ρ' H' _ E3 R3 (rx.ext R2 E3)⟩
    | exc c' fs h' =>
      rw [hF] at hP'
      exact fun ρ' H' d ys E3 R3 e q => hP' ρ' H' d ys E3 R3 e q
    | stuck => rw [hF] at hP'; exact hP'.elim
  refine wpAny_call (make_map (f := fI) I.kIn M.makes M.init (beq_iff_eq.mp M.fn) (codeAny_mono (g.run (X.A.under (.builtin "type.__call__" ⟨.ref (G c) :: us, []⟩)) X.stack _ _ ⟨Value.ref (s.heap.objs.size + 1) :: us, []⟩ _ _ _ _ (.ref h.length :: (svs ++ dv)) (fun v H' => v = .non ∧ Q (.ref (s.heap.objs.size + 1)) H') (fun c d H => W c d σ H) (hr.make (G c) us []) ok.gd
    (I2.env0.make (G c) us []) (hb _ (Value.ref (s.heap.objs.size + 1) :: us) I2.kIn hl) r2 R2 (.cons rx t2) (by simp; omega) pp) fun r s' hq' => ?_))
  cases r with
  | error e => exact ok.tk e s' (XE.of_call I2 (fun _ _ _ z => z) hq')
  | ok fl =>
    cases fl with
    | ret u =>
      obtain ⟨v, H', I3, rv, ev, q3⟩ := I2.after hq'
      subst ev
      exact ⟨rv, V.ref (s.heap.objs.size + 1), H', I3, rfl, q3⟩
    | next => exact False.elim hq'
    | brk => exact False.elim hq'
    | cont => exact False.elim hq'
theorem se_make {fI : Addr} {c : Nat} (M : Mk X.K (G c) fI) (g : FnG X.prog X.w X.K X.mg X.base G k fI fd ps F) (ok : XOs X W) (hr : Room (k + 1) X.A) (hm : X.mg x = some (.ref (G c))) (hb : Binds X.K fd ps ds) (hd : Dfl X G dv ds) (sl : SA X G W (e :: es) re) (hg : Gl X x := by rfl)
    (hdb : (x == ("__debug__" : Str)) = false := by decide) (he : starEach (e :: es) X.env = (false, eval e X.env) :: starEach es X.env := by rfl) (hpl : (backTo pos (starEach es X.env)).any (·.1) = false := by rfl) :
    SE X G W (.Call (.Name x p) (e :: es) [] pos) (rMake c F ps.length dv re) := .of fun ρ σs h σ H Q hE hR hP pins s I => by
  refine wpAny_Call_Name_kw (ld_glob I hg hm ?_ hdb)
  refine PySem.W.callWith_K (h₀ := X.base) I.ok.mod.kin M.kp (thn (sl ρ σs h σ H (fun vs H1 => ∀ (pins : List (Addr × Obj)) (s : Shared) (us : List Value), Inv X pins σ H1 s → Vals vs us → wpAny (model X.prog X.w) X.A (call (.ref (G c)) us) (EP X pins σ Q) X.xe s) hE hR (hP.fst fun vs h1 ρ1 H1 xs _ E1 R1 v1 p1 pins s us I r => ?_) pos pins s I) fun us s1 ⟨vs, H1, I1, r, q⟩ => ⟨I1.kIn, q pins s1 us I1 r⟩) he hpl
  split at p1
  · rename_i hl
    exact runMk M g ok hr hb hd I r R1 v1 hl p1
  · exact p1.elim
end
end Pz

set_option Elab.async false
set_option linter.all false
set_option maxRecDepth 100000
set_option maxHeartbeats 1000001
namespace Pz
open PySem PySem.Spec L2

/-! ### methods of built-ins -/
def isTy (T : String) (u : SV) (h : Hs) : Bool := match u with
  | .str _ => T == "str"
  | .scr _ => T == "list"
  | .ref i => match h[i]? with
    | some (.lst _) => T == "list"
    | some (.dct _) => T == "dict"
    | _ => false
  | _ => false
structure MtS (X : Cx) (G : Nat → Addr) (id : String) (f : SV → List SV → Hs → Out SV) : Prop where of ::
  run : ∀ W ρ h H σ u us x xs Q, RHp (zOf X G) ρ h H → RV (zOf X G) ρ h.length H u x → RVs (zOf X G) ρ h.length H us xs → PostE (zOf X G) W ρ h H σ (f u us h) Q → ∀ (pins : List (Addr × Obj)) (s : Shared) (σ' : L2.St) (v : Value) (ws : List Value), Inv X pins σ' H s → RelV x v → Vals xs ws → wpAny (model X.prog X.w) X.A (call (.builtin id) (v :: ws)) (EP X pins σ' Q) X.xe s
instance (X : Cx) (G : Nat → Addr) (id : String) (f : SV → List SV → Hs → Out SV) : CoeFun (MtS X G id f) fun _ => ∀ W ρ h H σ u us x xs Q, RHp (zOf X G) ρ h H → RV (zOf X G) ρ h.length H u x → RVs (zOf X G) ρ h.length H us xs → PostE (zOf X G) W ρ h H σ (f u us h) Q → ∀ (pins : List (Addr × Obj)) (s : Shared) (σ' : L2.St) (v : Value) (ws : List Value), Inv X pins σ' H s → RelV x v → Vals xs ws → wpAny (model X.prog X.w) X.A (call (.builtin id) (v :: ws)) (EP X pins σ' Q) X.xe s := ⟨MtS.run⟩
def mAny (X : Cx) (id : String) : V → List V → Hp → VK → Prop := fun x xs H Q => ∀ (pins : List (Addr × Obj)) (s : Shared) (σ' : L2.St) (v : Value) (ws : List Value), Inv X pins σ' H s → RelV x v → Vals xs ws → wpAny (model X.prog X.w) X.A (call (.builtin id) (v :: ws)) (EP X pins σ' Q) X.xe s
theorem mt_any {X : Cx} {id : String} : MtR X id (mAny X id) := fun pins s σ H x xs v us Q I rx r h => h pins s σ v us I rx r
theorem mts_of {X : Cx} {G : Nat → Addr} {id : String} {f : SV → List SV → Hs → Out SV} {r : V → List V → Hp → VK → Prop} (hm : MtR X id r)
    (k : ∀ W ρ h H σ u us x xs Q, RHp (zOf X G) ρ h H → RV (zOf X G) ρ h.length H u x → RVs (zOf X G) ρ h.length H us xs → PostE (zOf X G) W ρ h H σ (f u us h) Q → r x xs H Q) : MtS X G id f :=
  .of fun W ρ h H σ u us x xs Q hR rx t hP pins s σ' v ws I rv rw => hm pins s σ' H x xs v ws Q I rv rw (k W ρ h H σ u us x xs Q hR rx t hP)
def rBM0 (T : String) (f : SV → List SV → Hs → Out SV) (ra : EF) : EF := fun σ h => (ra σ h).bnd fun u h => if isTy T u h = true then f u [] h else .stuck
def rBM (T : String) (f : SV → List SV → Hs → Out SV) (ra : EF) (re : LF) : EF := fun σ h => (ra σ h).bnd fun u h => if isTy T u h = true then (re σ h).bnd fun us h => f u us h else .stuck
section
variable {X : Cx} {G : Nat → Addr} {W : WX} {pos cpos apos : Pos} {a b o e i : Expr} {es : List Expr} {ra rb ro ri : EF} {re : LF} {name : Str} {T id : String} {f : SV → List SV → Hs → Out SV}
theorem isTy_tyV {ρ : Nat → Addr} {h : Hs} {H : Hp} {u : SV} {x : V} (hR : RHp (zOf X G) ρ h H) (r : RV (zOf X G) ρ h.length H u x) (e : isTy T u h = true) : tyV X.K T x H := by
  unfold isTy at e
  split at e
  · cases r; exact beq_iff_eq.mp e
  · obtain ⟨p, rfl, q⟩ := scr_sq r
    exact .inl ⟨beq_iff_eq.mp e, _, q⟩
  · cases r with | ref hi => ?_
    split at e
    · rename_i e0
      obtain ⟨_, vs, f, t⟩ := hR.lst e0
      exact .inl ⟨beq_iff_eq.mp e, _, SqL.of f⟩
    · rename_i e0
      obtain ⟨_, vs, f, t⟩ := hR.dct e0
      exact .inr (.inr (.inl ⟨beq_iff_eq.mp e, .inl ⟨_, f⟩⟩))
    · cases e
  · cases e
theorem se_bm0 (hm : MtS X G id f) (pa : PlainAttrs T) (slot : Slot T name id) (hty : typeOf (.builtin id) = pure (.type "method_descriptor")) (so : SE X G W o ro)
    (hbase : attributeBase o name X.env (eval o X.env) = eval o X.env := by rfl) (hline : (apos.endLine == cpos.line) = true := by rfl) : SE X G W (.Call (.Attribute o name apos) [] [] cpos) (rBM0 T f ro) :=
  se_pe (pe_bm0 pa slot hty mt_any pe_any hbase hline) fun ρ σs h σ H Q hE hR hP => so ρ σs h σ H _ hE hR (hP.fst fun u h1 ρ1 H1 x _ E1 R1 v1 p1 => by
    split at p1
    · rename_i e0
      exact ⟨isTy_tyV R1 v1 e0, fun pins s σ' v ws I rv rw => hm W ρ1 h1 H1 σ u [] x [] Q R1 v1 .nil p1 pins s σ' v ws I rv rw⟩
    · exact p1.elim)
theorem se_bm (hm : MtS X G id f) (pa : PlainAttrs T) (slot : Slot T name id) (hty : typeOf (.builtin id) = pure (.type "method_descriptor")) (so : SE X G W o ro) (sl : SA X G W (e :: es) re)
    (hbase : attributeBase o name X.env (eval o X.env) = eval o X.env := by rfl)
    (hfew : ((backTo cpos (starEach (e :: es) X.env)).all (fun x => !x.1) && (backToKw cpos (keywordEach [] X.env)).all (fun x => x.1.isSome) && decide ((e :: es).length + ([] : List Keyword).length + (if ([] : List Keyword).isEmpty then 0 else 1) < 30)) = true := by rfl)
    (hline : (apos.endLine == cpos.line) = true := by rfl) (hs : starEach (e :: es) X.env = (false, eval e X.env) :: starEach es X.env := by rfl) (hpl : (backTo cpos (starEach es X.env)).any (·.1) = false := by rfl) :
    SE X G W (.Call (.Attribute o name apos) (e :: es) [] cpos) (rBM T f ro re) :=
  se_pe (pe_bm pa slot hty mt_any pe_any pa_any hbase hfew hline hs hpl) fun ρ σs h σ H Q hE hR hP => so ρ σs h σ H _ hE hR (hP.fst fun u h1 ρ1 H1 x _ E1 R1 v1 p1 => by
    split at p1
    · rename_i e0
      refine ⟨isTy_tyV R1 v1 e0, sl ρ1 σs h1 σ H1 _ (hE.ext hR E1) R1 (p1.fst fun us h2 ρ2 H2 xs _ E2 R2 v2 p2 => ?_)⟩
      exact fun pins s σ' v ws I rv rw => hm W ρ2 h2 H2 σ u us x xs Q R2 (v1.ext R1 E2) v2 p2 pins s σ' v ws I rv rw
    · exact p1.elim)
theorem wr_lst {Z : Cz} {ρ : Nat → Addr} {h : Hs} {H : Hp} {σ : L2.St} {k : Nat} {xs : List SV} {vs : List V} {u : SV} {x : V} {Q : VK} (R : RHp Z ρ h H) (hi : k < h.length) (r : RVs Z ρ h.length H xs vs) (ru : RV Z ρ h.length H u x)
    (hP : PostE Z W ρ h H σ (.ok u (h.set k (.lst xs))) Q) : Q x (upd H (ρ k) (.lst vs)) :=
  PostG.at (Gro.wr hi) (R.wr (o := .lst xs) hi ⟨vs, upd_same, r.ext' (keep_wr R hi) (Nat.le_refl _) fun _ _ => rfl⟩) (by rw [List.length_set]; exact ru.ext' (keep_wr R hi) (Nat.le_refl _) fun _ _ => rfl) hP

/-! the methods -/
def mAppend : SV → List SV → Hs → Out SV
  | .ref k, [v], h => match h[k]? with
    | some (.lst xs) => if xs.length < 16777216 then .ok .non (h.set k (.lst (xs ++ [v]))) else .stuck
    | _ => .stuck
  | _, _, _ => .stuck
theorem mt_appendS : MtS X G "list.append" mAppend := mts_of mt_append fun W ρ h H σ u us x xs Q hR rx t hP => by
  unfold mAppend at hP
  split at hP
  · cases rx with | ref hi => ?_
    obtain ⟨y, rfl, ry⟩ := rvs1 t
    split at hP
    · rename_i e0
      obtain ⟨_, vs, f, t2⟩ := hR.lst e0
      split at hP
      · rename_i hz
        exact ⟨_, _, _, rfl, rfl, f, by rw [← t2.length, lim_eq]; exact hz, wr_lst hR hi (t2.app (.cons ry .nil)) .non hP⟩
      · exact hP.elim
    · exact hP.elim
  · exact hP.elim
def mExtend : SV → List SV → Hs → Out SV
  | .ref k, [.ref j], h => match h[k]?, h[j]? with
    | some (.lst xs), some (.lst ys) => if xs.length + ys.length ≤ 16777216 then .ok .non (h.set k (.lst (xs ++ ys))) else .stuck
    | _, _ => .stuck
  | _, _, _ => .stuck
theorem mt_extendS : MtS X G "list.extend" mExtend := mts_of mt_extend fun W ρ h H σ u us x xs Q hR rx t hP => by
  unfold mExtend at hP
  split at hP
  · cases rx with | ref hi => ?_
    obtain ⟨y, rfl, ry⟩ := rvs1 t
    cases ry with | ref hj => ?_
    split at hP
    · rename_i e0 e1
      obtain ⟨_, vs, f, t2⟩ := hR.lst e0
      obtain ⟨_, ws, g, t3⟩ := hR.lst e1
      split at hP
      · rename_i hz
        exact ⟨_, _, _, _, rfl, rfl, f, g, by rw [← t2.length, ← t3.length, lim_eq]; exact hz, wr_lst hR hi (t2.app t3) .non hP⟩
      · exact hP.elim
    · exact hP.elim
  · exact hP.elim
theorem RVs.dropLast {Z : Cz} {ρ : Nat → Addr} {n : Nat} {H : Hp} {xs : List SV} {vs : List V} (t : RVs Z ρ n H xs vs) : RVs Z ρ n H xs.dropLast vs.dropLast := by
  rw [List.dropLast_eq_take, List.dropLast_eq_take, ← t.length]; exact t.take _
def mPop : SV → List SV → Hs → Out SV
  | .ref k, [], h => match h[k]? with
    | some (.lst xs) => (match xs[xs.length - 1]? with
      | some v => .ok v (h.set k (.lst xs.dropLast))
      | none => .stuck)
    | _ => .stuck
  | .ref k, [.int i], h => match h[k]? with
    | some (.lst xs) => if -(2 ^ 63) ≤ i ∧ i < 2 ^ 63 then (match seqIndex? i xs.length with
      | some j => (match xs[j]? with
        | some v => .ok v (h.set k (.lst (xs.eraseIdx j)))
        | none => .stuck)
      | none => .stuck) else .stuck
    | _ => .stuck
  | _, _, _ => .stuck
theorem RVs.eraseIdx {Z : Cz} {ρ : Nat → Addr} {n : Nat} {H : Hp} : ∀ {xs : List SV} {vs : List V} (j : Nat), RVs Z ρ n H xs vs → RVs Z ρ n H (xs.eraseIdx j) (vs.eraseIdx j)
  | _, _, _, .nil => .nil
  | _, _, 0, .cons _ s => s
  | _, _, j + 1, .cons r s => .cons r (RVs.eraseIdx j s)
theorem mt_popS : MtS X G "list.pop" mPop := .of fun W ρ h H σ u us x xs Q hR rx t hP pins s σ' v ws I rv rw => by
  unfold mPop at hP
  split at hP
  · cases rx with | ref hi => ?_
    cases t
    split at hP
    · rename_i e0
      obtain ⟨_, vs, f, t2⟩ := hR.lst e0
      split at hP
      · rename_i e1
        obtain ⟨y, e2, ry⟩ := t2.get e1
        exact mt_pop pins s σ' H _ _ v ws Q I rv rw ⟨_, _, _, rfl, rfl, f, by rw [← t2.length]; exact e2, wr_lst hR hi t2.dropLast ry hP⟩
      · exact hP.elim
    · exact hP.elim
  · cases rx with | ref hi => ?_
    obtain ⟨y, rfl, ry⟩ := rvs1 t
    cases ry
    split at hP
    · rename_i e0
      obtain ⟨_, vs, f, t2⟩ := hR.lst e0
      split at hP
      · rename_i hz
        split at hP
        · rename_i e1
          split at hP
          · rename_i e2
            obtain ⟨y, e3, ry⟩ := t2.get e2
            exact mt_popAt pins s σ' H _ _ v ws Q I rv rw ⟨_, _, _, _, _, rfl, rfl, f, hz.1, hz.2, by rw [← t2.length]; exact e1, e3, wr_lst hR hi (RVs.eraseIdx _ t2) ry hP⟩
          · exact hP.elim
        · exact hP.elim
      · exact hP.elim
    · exact hP.elim
  · exact hP.elim
/-- a test of a text -/
def mStrB (g : Str → Bool) : SV → List SV → Hs → Out SV
  | .str z, [], h => .ok (.bl (g z)) h
  | _, _, _ => .stuck
theorem mts_strB {g : Str → Bool} (hm : MtR X id (fun x xs H Q => ∃ a, x = .str a ∧ xs = [] ∧ True ∧ Q (.bl (g a)) H)) : MtS X G id (mStrB g) := mts_of hm fun W ρ h H σ u us x xs Q hR rx t hP => by
  unfold mStrB at hP
  split at hP
  · cases rx; cases t
    exact ⟨_, rfl, rfl, trivial, PostG.ret hR (.bl _) hP⟩
  · exact hP.elim
theorem se_isascii (so : SE X G W o ro) (hbase : attributeBase o "isascii" X.env (eval o X.env) = eval o X.env := by rfl) (hline : (apos.endLine == cpos.line) = true := by rfl) : SE X G W (.Call (.Attribute o "isascii" apos) [] [] cpos) (rBM0 "str" (mStrB Txt.isascii) ro) := se_bm0 (mts_strB mt_isascii) PySem.F.plainAttrs_str PySem.F.slot_str_isascii PySem.F.type_str_isascii so hbase hline
theorem se_islower (so : SE X G W o ro) (hbase : attributeBase o "islower" X.env (eval o X.env) = eval o X.env := by rfl) (hline : (apos.endLine == cpos.line) = true := by rfl) : SE X G W (.Call (.Attribute o "islower" apos) [] [] cpos) (rBM0 "str" (mStrB Txt.islower) ro) := se_bm0 (mts_strB mt_islower) PySem.F.plainAttrs_str PySem.F.slot_str_islower PySem.F.type_str_islower so hbase hline
theorem se_isalpha (so : SE X G W o ro) (hbase : attributeBase o "isalpha" X.env (eval o X.env) = eval o X.env := by rfl) (hline : (apos.endLine == cpos.line) = true := by rfl) : SE X G W (.Call (.Attribute o "isalpha" apos) [] [] cpos) (rBM0 "str" (mStrB Txt.isalpha) ro) := se_bm0 (mts_strB mt_isalpha) PySem.F.plainAttrs_str PySem.F.slot_str_isalpha PySem.F.type_str_isalpha so hbase hline

/-! ### o[i] = e on lists, {} -/
def oSetIx : SV → SV → SV → Hs → Option Hs
  | .ref a, .int i, v, h => match h[a]? with
    | some (.lst xs) => (match ixN xs.length i with
      | some j => some (h.set a (.lst (xs.set j v)))
      | none => none)
    | _ => none
  | _, _, _, _ => none
def sSetIx (ro ri rv : EF) : SF := fun σ h => (rv σ h).st σ fun v h => (ro σ h).st σ fun u h => (ri σ h).st σ fun i h => match oSetIx u i v h with
  | some h => .nx σ h
  | none => .stuck
def setAny (X : Cx) : TSet := fun o i v H Q => ∀ (pins : List (Addr × Obj)) (s : Shared) (σ : L2.St) (ov iv u : Value), Inv X pins σ H s → RelV o ov → RelV i iv → RelV v u → wpAny (model X.prog X.w) X.A (setItem ov iv u) (fun _ s' => ∃ H', Inv X pins σ H' s' ∧ Q H') X.xe s
theorem ss_setIx {rv : EF} {p2 : Pos} (so : SE X G W o ro) (si : SE X G W i ri) (sv : SE X G W e rv) (hs : swapsWithSole [.Subscript o i p2] e pos.line X.env = pure false := by rfl) (hw : swappedStores [.Subscript o i p2] e X.env = pure none := by rfl)
    (h1 : (assignEach [.Subscript o i p2] X.env).map (·.2) = [assign (.Subscript o i p2) X.env] := by rfl)
    (ha : ∀ v, assign (.Subscript o i p2) X.env v = (do let ov ← holding [v] (eval o X.env); let iv ← holding [v, ov] (eval i X.env); standAt p2; holding [v, ov, iv] (setItem ov iv v); release [v, ov, iv] []) := by intro _; rfl) :
    SS X G W (.Assign [.Subscript o i p2] e pos) (sSetIx ro ri rv) := .of fun ρ σs h σ H D hE hR hP =>
  any_ps (ps_asg pe_any (pg_sub pe_any pe_any set_list ha) hs hw h1) (sv ρ σs h σ H _ hE hR (PostS.expr hE hR hP fun v h1 ρ1 H1 y _ E1 R1 v1 p1 =>
    so ρ1 σs h1 σ H1 _ (hE.ext hR E1) R1 (PostS.expr (hE.ext hR E1) R1 p1 fun u h2 ρ2 H2 x _ E2 R2 v2 p2 =>
      si ρ2 σs h2 σ H2 _ ((hE.ext hR E1).ext R1 E2) R2 (PostS.expr ((hE.ext hR E1).ext R1 E2) R2 p2 fun n h3 ρ3 H3 z _ E3 R3 v3 p3 => by
        split at p3
        · rename_i h4 e4
          have hE3 := ((hE.ext hR E1).ext R1 E2).ext R2 E3
          have v2 := v2.ext R2 E3
          have v1 := (v1.ext R1 E2).ext R2 E3
          unfold oSetIx at e4
          split at e4
          · cases v2 with | ref hi => ?_
            cases v3
            split at e4
            · rename_i e0
              obtain ⟨_, vs, f, t⟩ := R3.lst e0
              split at e4
              · rename_i j ej
                cases e4
                refine ⟨_, _, _, j, rfl, rfl, f, by rw [← t.length]; exact ej, ?_⟩
                exact p3 ρ3 _ σ (Gro.wr hi) (R3.wr (o := .lst _) hi ⟨_, upd_same, (RVs.set v1 j t).ext' (keep_wr R3 hi) (Nat.le_refl _) fun _ _ => rfl⟩) (hE3.ext R3 (Gro.wr hi))
              · cases e4
            · cases e4
          · cases e4
        · exact p3.elim))))
def rDNil : EF := fun _ h => .ok (.ref h.length) (h ++ [.dct []])
theorem se_dnil : SE X G W (.Dict [] [] pos) rDNil := se_pe pe_dnewK fun ρ σs h σ H Q hE hR hP => fun p hp => new_dct hR hp .nil hP

/-! ### isinstance -/
inductive TyS where
  | b (n : String) | c (i : Nat)
  deriving DecidableEq
def tyS (h : Hs) : SV → Option TyS
  | .non => some (.b "NoneType")
  | .bl _ => some (.b "bool")
  | .int _ => some (.b "int")
  | .str _ => some (.b "str")
  | .tup _ => some (.b "tuple")
  | .scr _ => some (.b "list")
  | .ref i => match h[i]? with
    | some (.lst _) => some (.b "list")
    | some (.dct _) => some (.b "dict")
    | some (.ins c _) => some (.c c)
    | _ => none
  | _ => none
def TyS.v (G : Nat → Addr) : TyS → Value
  | .b n => .type n
  | .c i => .ref (G i)
def clS : SV → Option TyS
  | .ty n => some (.b n)
  | .obj i => some (.c i)
  | _ => none
/-- an own class, as isinstance wants it -/
structure IsC (K : PySem.W.Frag) (C : Addr) : Prop where
  cl : Cls K C
  ha : PySem.W.findIn K (.ref C) "__class__" = some (some (.builtin "object.__class__"))
  hn : PySem.W.specialIn K (.builtin "object.__class__") "__get__" = some (some (.builtin "getset_descriptor.__get__"))
  hk : PySem.W.takesIn K (.builtin "object.__class__") = some true
  hm : PySem.W.mroIn K C (.type "object") = some true
/-- the table of answers -/
structure IsT (X : Cx) (G : Nat → Addr) (T : TyS → TyS → Option Bool) : Prop where
  one : ∀ a b r, T a b = some r → PySem.W.kitOne X.K (a.v G) (b.v G) = some r
  own : ∀ c b r, T (.c c) b = some r → IsC X.K (G c)
def tB (a b : TyS) : Option Bool := match a, b with
  | .b m, .b n => kitB m n
  | _, _ => none
theorem ist_b : IsT X G tB where
  one := fun a b r e => by
    unfold tB at e
    split at e
    · exact kit_ty e
    · cases e
  own := fun c b r e => by simp [tB] at e
def bIsi (T : TyS → TyS → Option Bool) : List SV → Hs → Out SV
  | [u, c], h => match tyS h u, clS c with
    | some t, some k => (match T t k with
      | some r => .ok (.bl r) h
      | none => .stuck)
    | _, _ => .stuck
  | _, _ => .stuck
theorem tyS_x {T : TyS → TyS → Option Bool} {ρ : Nat → Addr} {h : Hs} {H : Hp} {u : SV} {x : V} {t k : TyS} {r : Bool} (hT : IsT X G T) (e2 : T t k = some r) (hR : RHp (zOf X G) ρ h H) (rx : RV (zOf X G) ρ h.length H u x) (e : tyS h u = some t) : TyX X.K H x (t.v G) := by
  unfold tyS at e
  split at e
  · cases rx; cases e; exact .base .non
  · cases rx; cases e; exact .base (.bl _)
  · cases rx; cases e; exact .base (.int _)
  · cases rx; cases e; exact .base (.str _)
  · cases e
    cases rx with | tup q t2 => ?_
    rcases q with (q | ⟨_, q⟩) | ⟨_, _, _, e, c, _⟩
    · exact .base (.tup q)
    · exact .fTuple q
    · exact .kTuple e c
  · cases e
    obtain ⟨a, rfl, q⟩ := scr_sq rx
    rcases q with (q | ⟨_, q⟩) | ⟨_, _, _, e, c, _⟩
    · exact .base (.lst q)
    · exact .base (.frz q)
    · exact .kList e c
  · cases rx with | ref hi => ?_
    split at e
    · rename_i e0
      cases e
      obtain ⟨_, vs, f, t⟩ := hR.lst e0
      exact .base (.lst f)
    · rename_i e0
      cases e
      obtain ⟨_, vs, f, t⟩ := hR.dct e0
      exact .base (.dK f)
    · rename_i e0
      cases e
      obtain ⟨_, dx, vs, f, t⟩ := hR.ins e0
      have q := hT.own _ _ _ e2
      exact .base (.ins f q.cl q.ha q.hn q.hk q.hm)
    · cases e
  · cases e
theorem fn_isi {T : TyS → TyS → Option Bool} (hT : IsT X G T) : FnS X G (.builtin "isinstance") (bIsi T) := fns_of call_isi fun W ρ h H σ us xs Q hR t hP => by
  unfold bIsi at hP
  split at hP
  · obtain ⟨x, y, rfl, r1, r2⟩ := rvs2 t
    split at hP
    · rename_i t k e1 e2
      split at hP
      · rename_i r e3
        refine ⟨x, y, _, k.v G, r, rfl, ?_, tyS_x hT e3 hR r1 e1, hT.one _ _ _ e3, PostG.ret hR (.bl _) hP⟩
        unfold clS at e2
        split at e2
        · cases e2; cases r2; exact .ty _
        · cases e2; cases r2; exact .own _
        · cases e2
      · exact hP.elim
    · exact hP.elim
  · exact hP.elim
end
end Pz

set_option Elab.async false
set_option linter.all false
set_option maxRecDepth 100000
set_option maxHeartbeats 2000001
namespace Pz
open PySem PySem.Spec L2

/-! ### an exception that a suite holds stands in the heap, as it is -/
section
variable {X : Cx} {pins : List (Addr × Obj)} {σ : L2.St} {H : Hp} {s : Shared} {a : Addr} {o : HO}
theorem inv_adopt (I : Inv X pins σ H s) (na : H a = none) (n0 : a ∉ X.ex → X.s_0.heap.get? a = none) (nL : a ≠ X.env.locals) (nc : ∀ x c, X.env.cells.lookup x = some c → c ≠ a) (np : ∀ p ∈ X.pn ++ pins, p.1 ≠ a) (new : ObjOk X.prog X.w (upd H a o) s.heap a o) : Inv X pins σ (upd H a o) s where
  ok := I.ok
  os := I.os
  bare := I.bare
  base :=
    { keep := I.base.keep, slot := I.base.slot, there := I.base.there,
      free := fun b u e n x => by
        by_cases hb : b = a
        · subst hb; rw [n0 x] at e; cases e
        · rw [upd_ne hb]; exact I.base.free b u e n x,
      tups := fun b xs e => by
        have q := I.base.tups b xs e
        rw [upd_ne (ne_of_none q na)]; exact q,
      frzs := fun b u v e => by
        have q := I.base.frzs b u v e
        rw [upd_ne (ne_of_none q na)]; exact q,
      tbls := fun b ps e => by
        obtain ⟨m, q⟩ := I.base.tbls b ps e
        exact ⟨m, by rw [upd_ne (ne_of_none q na)]; exact q⟩ }
  loc := I.loc
  cell := I.cell
  free := by rw [upd_ne (Ne.symm nL)]; exact I.free
  freeC := fun x c e => by rw [upd_ne (nc x c e)]; exact I.freeC x c e
  pin := fun p hp => by
    obtain ⟨h1, h2, h3⟩ := I.pin p hp
    exact ⟨h1, by rw [upd_ne (np p hp)]; exact h2, h3⟩
  hok := fun b u e => by
    by_cases hb : b = a
    · subst hb; rw [upd_same] at e; cases e; exact new
    · rw [upd_ne hb] at e
      refine (I.hok b u e).stay (fun c v _ q => q) (fun c q => ?_) fun c xs q => ?_ <;> (rw [upd_ne (ne_of_none q na)]; exact q)
  len := I.len
/-- into a suite, out of it -/
theorem inv_into (I : Inv X pins σ H s) (a : Addr) : Inv (X.suite a (X.pn ++ pins)) [] σ H s :=
  ⟨I.ok.suite _ _, I.os, I.bare, I.base, I.loc, I.cell, I.free, I.freeC, fun p hp => I.pin p (by rw [List.append_nil] at hp; exact hp), I.hok, I.len⟩
theorem inv_outof {pn' : List (Addr × Obj)} (I : Inv (X.suite a (X.pn ++ pins)) pn' σ H s) (ok : X.Ok) : Inv X pins σ H s :=
  ⟨ok, I.os, I.bare, I.base, I.loc, I.cell, I.free, I.freeC, fun p hp => I.pin p (List.mem_append_left _ hp), I.hok, I.len⟩
end

/-! ### try with several clauses, with names or without -/
def cutI (i : Option Nat) (σ : L2.St) : L2.St := match i with
  | none => σ
  | some k => σ.set k none
def setI (i : Option Nat) (x : V) (σ : L2.St) : L2.St := match i with
  | none => σ
  | some k => σ.set k (some x)
def endI (i : Option Nat) (D : Ends) : Ends := { nx := fun σ H => D.nx (cutI i σ) H, rt := D.rt, bk := fun σ H => D.bk (cutI i σ) H, ct := fun σ H => D.ct (cutI i σ) H }
abbrev Hd := Value × Option Nat × (Addr → List (Addr × Obj) → TS)
def wHd (K : PySem.W.Frag) (Wo : WX) (D : Ends) : List Hd → WX
  | [] => Wo
  | (c, i, ts) :: r => fun cls d σ H => ∃ b, PySem.W.exmOne K cls c = some b ∧ (b = false → wHd K Wo D r cls d σ H) ∧
      (b = true → ∀ (a : Addr) (oe : Obj) (pn : List (Addr × Obj)), H a = none → Zc cls d oe → (∃ vs, oe.data = .fields vs) → ts a pn (endI i D) (setI i (.ref a) σ) (upd H a (.frz oe (.own a))))
def NmOk (X : Cx) : Option Str → Option Nat → Prop
  | none, none => True
  | some n, some k => X.N[k]? = some n ∧ X.env.kindOf n = some .local
  | _, _ => False
inductive HsOk (X : Cx) : List ExceptHandler → List Hd → Prop
  | nil : HsOk X [] []
  | cons {x : Str} {c : Value} {nm : Option Str} {i : Option Nat} {ts : Addr → List (Addr × Obj) → TS} {b : Stmt} {bs : List Stmt} {p q : Pos} {hds : List ExceptHandler} {l : List Hd} (hc : Names X x c) (hn : NmOk X nm i) (hsu : ∀ a pn, PSs (X.suite a pn) (b :: bs) (ts a pn)) (r : HsOk X hds l) :
      HsOk X (.ExceptHandler (some (.Name x p)) nm (b :: bs) q :: hds) ((c, i, ts) :: l)
section
variable {X : Cx} {body : List Stmt} {h₀ : ExceptHandler} {hds : List ExceptHandler} {l : List Hd} {pos : Pos} {tb : WX → TS} {Wo : WX}
theorem ps_tryZ (hst : X.stack = X.env :: X.outer) (hf : X.env.frame = some X.env.locals) (hN : X.N.Nodup) (tk : Takes X Wo) (hb : ∀ (W : WX) (pn : List (Addr × Obj)) (xe : Value → Shared → Prop), Takes (X.tr pn xe) W → PassesOwn (model X.prog X.w) X.A X.env xe → PSs (X.tr pn xe) body (tb W))
    (hh : HsOk X (h₀ :: hds) l) : PS X (.Try body (h₀ :: hds) [] [] pos) (fun D σ H => tb (wHd X.K Wo D l) D σ H) := by
  refine ⟨fun pins s σ H D I h => ?_⟩
  have ok := I.ok
  have hfr : X.A.frames = some (X.env :: X.outer) := by rw [ok.frames, hst]
  refine wpAny_Try_except (wpAny_mono ((hb (wHd X.K Wo D l) (X.pn ++ pins) (fun e s₁ => wpAny (model X.prog X.w) X.A (noteFrame e X.env) (fun _ s₂ => wpAny (model X.prog X.w) X.A (setFlight e none) (fun _ s₃ => wpAny (model X.prog X.w) X.A (handleBy e X.env (h₀ :: hds)) (SP X pins D) X.xe s₃) X.xe s₂) X.xe s₁)
    (fun u s' xx => ?_) PassesOwn.looking).run [] s σ H D (I.toTry _) h) (fun f s1 hsp => ?_) fun e s1 he => he)
  · obtain ⟨a, B, sI, pins', σ', H', cls, d, rfl, J', nb, up, sky, na, os, ag, wz⟩ := xx
    have J : Inv X pins σ' H' sI := J'.ofTry ok
    have sky' : Sky B (X.env :: X.outer) a (Zc cls d) X.env.locals s'.heap := by rw [← hst]; exact sky
    show wpAny (model X.prog X.w) X.A (noteFrame (.ref a) X.env) _ _ _
    refine Sky.land Zc.steady hfr hf sky' fun h3 fl3 up3 => ?_
    have J3 : Inv X pins σ' H' { s' with heap := h3 } := J.landed nb fl3.1 (up.trans up3) os ag
    obtain ⟨oe3, vs3, he3, hz3, hd3⟩ := fl3.there
    -- the exception is no frame, no cell, nothing that was there
    have nfr : a ∉ frs (X.env :: X.outer) := fun hm => by
      obtain ⟨_, o', e', hnf⟩ := fl3.2.2.1.mem hm
      rw [he3] at e'; cases e'
      exact hnf _ hd3
    have nfs : a ∉ frs X.stack := by rw [hst]; exact nfr
    have nI : sI.heap.get? a = none := by
      cases e : sI.heap.get? a with
      | none => rfl
      | some u =>
        have z := nb a u e nfs
        rw [fl3.2.1] at z; cases z
    have nL : a ≠ X.env.locals := fun z => nfr (List.mem_filterMap.mpr ⟨X.env, List.mem_cons_self, by rw [hf, z]⟩)
    have n0 : a ∉ X.ex → X.s_0.heap.get? a = none := fun hx => by
      cases e : X.s_0.heap.get? a with
      | none => rfl
      | some u =>
        obtain ⟨u', z⟩ := J.base.there a u e hx
        rw [nI] at z; cases z
    have nc : ∀ x c, X.env.cells.lookup x = some c → c ≠ a := fun x c e z => by
      obtain ⟨v, u, q, _⟩ := J.cell x c e
      rw [z, nI] at q; cases q
    have np : ∀ p ∈ X.pn ++ pins, p.1 ≠ a := fun p hp z => by
      have q := (J.pin p hp).1
      rw [z, nI] at q; cases q
    have S3 : Inv (X.suite a (X.pn ++ pins)) [] σ' H' { s' with heap := h3 } := inv_into J3 a
    have go : ∀ {hds' : List ExceptHandler} {l' : List Hd}, HsOk X hds' l' → wHd X.K Wo D l' cls d σ' H' → wpAny (model X.prog X.w) X.A (handleBy (.ref a) X.env hds') (SP X pins D) X.xe { s' with heap := h3 } := by
      intro hds' l' hk
      induction hk with
      | nil =>
        intro wz
        refine wpAny_handleBy_nil ?_
        obtain ⟨k1, k2, k3, oe, vs, T, oT, ts', he, hz, hd, h1, hr⟩ := id fl3
        unfold PySem.passOn
        refine wpAny_bind (wpAny_field he hd h1 ?_)
        rw [if_neg (show ¬ ((Value.ref T == Value.none) = true) from by simp)]
        have fin : wpAny (model X.prog X.w) X.A (setFlight (.ref a) X.env.frame) (fun _ s4 => wpAny (model X.prog X.w) X.A (throw (.ref a) : Sem Flow) (SP X pins D) X.xe s4) X.xe { s' with heap := h3 } := by
          rw [hf]
          refine HandSPX.setFlight_upZ fl3 fun h4 hh4 up4 => wpAny_throw (tk _ _ ⟨a, B, sI, pins, σ', H', cls, d, rfl, J, nb, (up.trans up3).trans up4, .inr (.inr (by rw [hst]; exact hh4)), na, os, ag, wz⟩)
        first | exact wpAny_bind (wpAny_pure (wpAny_bind fin)) | exact wpAny_bind fin
      | @cons x c nm i ts b0 bs p q hds2 l2 hc hn hsu r ih =>
        rintro ⟨b, hb1, hno, hyes⟩
        refine wpAny_handleBy_cons (codeAny_handlers_test ?_) (by intro q; cases q)
        have LT : PySem.W.Looks (model X.prog X.w) h3 (typeOf (.ref a)) cls := fun A Q E s k q => wpAny_typeOf_ref (k _ _ he3) (by rw [hz3.1]; exact q)
        have LM := PySem.W.exm_one (M := model X.prog X.w) J3.kIn LT hb1
        have test : ∀ {Q : Value → Shared → Prop} {E : Value → Shared → Prop}, Q c { s' with heap := h3 } → wpAny (model X.prog X.w) (X.A.mark (some (.ref a))) (eval (.Name x p) X.env) Q E { s' with heap := h3 } := fun {Q E} q => by
          obtain ⟨hg, hdbg, hm | ⟨hm, hv, hnn⟩⟩ := hc
          · exact ld_glob (X := X.suite a (X.pn ++ pins)) S3 hg hm q hdbg
          · exact ld_blt (X := X.suite a (X.pn ++ pins)) S3 hg hm hv q hnn hdbg
        refine test (LM.here ?_)
        cases b with
        | false =>
          show wpAny _ X.A (handleBy (.ref a) X.env hds2) _ _ _
          exact ih (hno rfl)
        | true =>
          have land : ∀ h4, HandSPX.FlyingZ B (X.env :: X.outer) a (Zc cls d) h4 → Heap.UpToSlots h3 h4 → ∃ oe4 : Obj, (∃ vs, oe4.data = .fields vs) ∧ Zc cls d oe4 ∧ Inv (X.suite a (X.pn ++ pins)) [] σ' (upd H' a (.frz oe4 (.own a))) { s' with heap := h4 } := fun h4 fl4 up4 => by
            obtain ⟨oe4, vs4, he4, hz4, hd4⟩ := fl4.there
            have J4 : Inv X pins σ' H' { s' with heap := h4 } := J.landed nb fl4.1 ((up.trans up3).trans up4) os ag
            exact ⟨oe4, ⟨_, hd4⟩, hz4, inv_into (inv_adopt (o := .frz oe4 (.own a)) J4 na n0 nL nc np ⟨he4, _, he4⟩) a⟩
          cases nm with
          | none =>
            cases i with
            | some k => exact hn.elim
            | none =>
              refine codeAny_handlers_suite (HandSPX.lands_againZ fl3 fun h4 fl4 up4 => ?_)
              obtain ⟨oe4, dd, hz4, S4⟩ := land h4 fl4 up4
              refine wpAny_mono ((hsu a (X.pn ++ pins)).run [] _ _ _ _ S4 (hyes rfl a oe4 (X.pn ++ pins) na hz4 dd)) (fun f s6 hsp => ?_) (fun _ _ z => False.elim z)
              cases f with
              | ret u => obtain ⟨v6, σ6, H6, S6, r6, q6⟩ := hsp; exact ⟨_, _, _, inv_outof S6 ok, r6, q6⟩
              | next => obtain ⟨σ6, H6, S6, q6⟩ := hsp; exact ⟨_, _, inv_outof S6 ok, q6⟩
              | brk => obtain ⟨σ6, H6, S6, q6⟩ := hsp; exact ⟨_, _, inv_outof S6 ok, q6⟩
              | cont => obtain ⟨σ6, H6, S6, q6⟩ := hsp; exact ⟨_, _, inv_outof S6 ok, q6⟩
          | some n =>
            cases i with
            | none => exact hn.elim
            | some k =>
              obtain ⟨hi, hln⟩ := hn
              refine codeAny_handlers_suite_as (HandSPX.lands_againZ fl3 fun h4 fl4 up4 => ?_)
              obtain ⟨oe4, dd, hz4, S4⟩ := land h4 fl4 up4
              refine store_ok (X := X.suite a (X.pn ++ pins)) (v := .ref a) S4 hN hi (.inl hln) rfl (fun s5 S5 => ?_) (.inr hln)
              refine wpAny_mono ((hsu a (X.pn ++ pins)).run [] s5 _ _ _ S5 (hyes rfl a oe4 (X.pn ++ pins) na hz4 dd)) (fun f s6 hsp => ?_) (fun _ _ z => False.elim z)
              have end_ : ∀ {σ6 : L2.St} {H6 : Hp} {Q : Shared → Prop}, Inv (X.suite a (X.pn ++ pins)) [] σ6 H6 s6 → (∀ s7, Inv X pins (σ6.set k none) H6 s7 → Q s7) → wpAny (model X.prog X.w) X.A (do bindName X.env n .none; unbindBehindTheSuite X.env n q) (fun _ s7 => Q s7) X.xe s6 := fun {σ6 H6 Q} S6 hq => gone_ok (inv_outof S6 ok) hN hi hln hq
              cases f with
              | ret u => obtain ⟨v6, σ6, H6, S6, r6, q6⟩ := hsp; exact end_ S6 fun s7 J7 => ⟨_, _, _, J7, r6, q6⟩
              | next => obtain ⟨σ6, H6, S6, q6⟩ := hsp; exact end_ S6 fun s7 J7 => ⟨_, _, J7, q6⟩
              | brk => obtain ⟨σ6, H6, S6, q6⟩ := hsp; exact end_ S6 fun s7 J7 => ⟨_, _, J7, q6⟩
              | cont => obtain ⟨σ6, H6, S6, q6⟩ := hsp; exact end_ S6 fun s7 J7 => ⟨_, _, J7, q6⟩
    exact go hh wz
  · cases f with
    | next => obtain ⟨σ', H', J', q⟩ := hsp; exact wpAny_execs_nil ⟨σ', H', J'.ofTry ok, q⟩
    | brk => obtain ⟨σ', H', J', q⟩ := hsp; exact ⟨σ', H', J'.ofTry ok, q⟩
    | cont => obtain ⟨σ', H', J', q⟩ := hsp; exact ⟨σ', H', J'.ofTry ok, q⟩
    | ret u => obtain ⟨v, σ', H', J', r, q⟩ := hsp; exact ⟨v, σ', H', J'.ofTry ok, r, q⟩
end
end Pz

set_option Elab.async false
set_option linter.all false
set_option maxRecDepth 100000
set_option maxHeartbeats 2000001
namespace Pz
open PySem PySem.Spec L2

theorem RHp.adoptO {Z : Cz} {ρ : Nat → Addr} {h : Hs} {H : Hp} {D : Addr} {o : SO} (R : RHp Z ρ h H) (hne : ∀ i, i < h.length → ρ i ≠ D) (ro : RO Z (putA ρ h.length D) (h.length + 1) H D o) : RHp Z (putA ρ h.length D) (h ++ [o]) H where
  ob := fun i x e => by
    rw [List.length_append]
    by_cases hi : i < h.length
    · rw [List.getElem?_append_left hi] at e
      rw [putA_lt hi]
      exact (R.ob i x e).ext' (fun a o e _ => e) (by simp) (fun j hj => putA_lt hj) rfl
    · obtain rfl : i = h.length := by have := (List.getElem?_eq_some_iff.mp e).1; simp at this; omega
      simp at e; subst e
      rw [putA_same]; exact ro
  inj := fun i j hi hj e => by
    simp at hi hj
    by_cases h1 : i < h.length <;> by_cases h2 : j < h.length
    · rw [putA_lt h1, putA_lt h2] at e; exact R.inj i j h1 h2 e
    · obtain rfl : j = h.length := by omega
      rw [putA_lt h1, putA_same] at e; exact absurd e (hne i h1)
    · obtain rfl : i = h.length := by omega
      rw [putA_lt h2, putA_same] at e; exact absurd e.symm (hne j h2)
    · omega

/-! ### try in the relation -/
def setO (i : Option Nat) (v : SV) (σ : SEnv) : SEnv := match i with
  | none => σ
  | some k => σ.set k (some v)
def cutO (i : Option Nat) (σ : SEnv) : SEnv := match i with
  | none => σ
  | some k => σ.set k none
def endO (i : Option Nat) : OS → OS
  | .nx σ h => .nx (cutO i σ) h
  | .bk σ h => .bk (cutO i σ) h
  | .ct σ h => .ct (cutO i σ) h
  | .rt v h => .rt v h
  | .exc _ _ _ _ => .stuck
  | .stuck => .stuck
abbrev SHd := TyS × Option Nat × SF
def sHd (E : Nat → TyS → Option Bool) : List SHd → Nat → List (Str × SV) → SF
  | [], c, fs => fun σ h => .exc c fs σ h
  | (k, i, r) :: l, c, fs => fun σ h => match E c k with
    | none => .stuck
    | some false => sHd E l c fs σ h
    | some true => endO i (r (setO i (.xn c h.length) σ) (h ++ [.exc c fs]))
def sTry (E : Nat → TyS → Option Bool) (rb : SF) (l : List SHd) : SF := fun σ h => match rb σ h with
  | .exc c fs σ1 h1 => sHd E l c fs σ1 h1
  | o => o
/-- the table of what catches what -/
def ExT (X : Cx) (G : Nat → Addr) (E : Nat → TyS → Option Bool) : Prop := ∀ c k b, E c k = some b → PySem.W.exmOne X.K (.ref (G c)) (k.v G) = some b
inductive SHs (X : Cx) (G : Nat → Addr) : List ExceptHandler → List SHd → Prop
  | nil : SHs X G [] []
  | cons {x : Str} {k : TyS} {nm : Option Str} {i : Option Nat} {r : SF} {b : Stmt} {bs : List Stmt} {p q : Pos} {hds : List ExceptHandler} {l : List SHd} (hc : Names X x (k.v G)) (hn : NmOk X nm i) (hsu : ∀ a pn, XOs (X.suite a pn) W0 → SSs (X.suite a pn) G W0 (b :: bs) r) (t : SHs X G hds l) :
      SHs X G (.ExceptHandler (some (.Name x p)) nm (b :: bs) q :: hds) ((k, i, r) :: l)
section
variable {X : Cx} {G : Nat → Addr} {W : WX} {pos : Pos}
theorem XOs.suite (ok : XOs X W) {a : Addr} {pn : List (Addr × Obj)} : XOs (X.suite a pn) W0 := ⟨ok.nd, takes0, PassesOwn.never, ok.gd, ok.hu⟩
theorem renv_cut {Z : Cz} {ρ : Nat → Addr} {n : Nat} {H : Hp} {σs : SEnv} {σ : L2.St} (hE : REnv Z ρ n H σs σ) (k : Nat) : REnv Z ρ n H (σs.set k none) (σ.set k none) := renv_wipe hE [k]
theorem renv_cutO {Z : Cz} {ρ : Nat → Addr} {n : Nat} {H : Hp} {σs : SEnv} {σ : L2.St} (hE : REnv Z ρ n H σs σ) (i : Option Nat) : REnv Z ρ n H (cutO i σs) (cutI i σ) := by
  cases i with
  | none => exact hE
  | some k => exact renv_cut hE k
theorem renv_setO {Z : Cz} {ρ : Nat → Addr} {n : Nat} {H : Hp} {σs : SEnv} {σ : L2.St} {v : SV} {x : V} (hE : REnv Z ρ n H σs σ) (r : RV Z ρ n H v x) (i : Option Nat) : REnv Z ρ n H (setO i v σs) (setI i x σ) := by
  cases i with
  | none => exact hE
  | some k => exact renv_set hE r k
theorem hs_ok {E : Nat → TyS → Option Bool} (hT : ExT X G E) (ok : XOs X W) : ∀ {hds : List ExceptHandler} {l : List SHd}, SHs X G hds l → ∃ l', HsOk X hds l' ∧ ∀ {ρ0 ρ : Nat → Addr} {h0 h1 : Hs} {H0 H' : Hp} {σs : SEnv} {σ : L2.St} {D : Ends} {c : Nat} {fs : List (Str × SV)} {d : Addr} {xs : List (Str × V)},
    Gro ρ0 h0 H0 ρ h1 H' → RHp (zOf X G) ρ h1 H' → REnv (zOf X G) ρ h1.length H' σs σ → XdA H0 ρ h1 H' d xs → RF (zOf X G) ρ h1.length H' fs xs → PostS (zOf X G) W ρ0 h0 H0 (sHd E l c fs σs h1) D → wHd X.K W D l' (.ref (G c)) (some d) σ H' := by
  intro hds l t
  induction t with
  | nil => exact ⟨[], .nil, fun E0 R hE hx rf hP => hP _ _ _ _ _ E0 R hE hx rf⟩
  | @cons x k nm i r b bs p q hds l hc hn hsu t ih =>
    obtain ⟨l', h1, h2⟩ := ih
    refine ⟨(k.v G, i, fun a pn => tAnySs (X.suite a pn) (b :: bs)) :: l', .cons hc hn (fun a pn => pss_any) h1, ?_⟩
    intro ρ0 ρ h0 h1 H0 H' σs σ D c fs d xs E0 R hE hx rf hP
    unfold sHd at hP
    cases e : E c k with
    | none => rw [e] at hP; exact hP.elim
    | some v =>
      refine ⟨v, hT _ _ _ e, fun ev => ?_, fun ev => ?_⟩
      · subst ev
        rw [e] at hP
        exact h2 E0 R hE hx rf hP
      · subst ev
        rw [e] at hP
        dsimp only at hP
        rintro a oe pn na ⟨hz1, hz2⟩ dd
        have nd : ∀ i, i < h1.length → ρ i ≠ d := hx.off
        have da : d ≠ a := ne_of_none hx.at' na
        have kl := keep_lay (u := .frz oe (.own a)) na
        have R1 : RHp (zOf X G) ρ h1 (upd H' a (.frz oe (.own a))) := R.lay na
        have rf1 : RF (zOf X G) (putA ρ h1.length d) (h1.length + 1) (upd H' a (.frz oe (.own a))) fs xs := rf.ext' kl (Nat.le_succ _) fun j hj => putA_lt hj
        have ad : (upd H' a (.frz oe (.own a))) d = some (.xd xs) := by rw [upd_ne da]; exact hx.at'
        have R2 := R1.adoptO (o := .exc c fs) nd ⟨xs, ad, rf1⟩
        have E2 : Gro ρ0 h0 H0 (putA ρ h1.length d) (h1 ++ [.exc c fs]) (upd H' a (.frz oe (.own a))) := by
          refine ⟨by have := E0.len; simp; omega, fun i hi => ?_, fun b u e hb => ?_, fun j hj1 hj2 => ?_⟩
          · rw [putA_lt (Nat.lt_of_lt_of_le hi E0.len)]; exact E0.agree i hi
          · have z := E0.fr b u e hb
            rw [upd_ne (ne_of_none z na)]; exact z
          · by_cases hj : j < h1.length
            · rw [putA_lt hj]; exact E0.fresh j hj1 hj
            · obtain rfl : j = h1.length := by simp at hj2; omega
              rw [putA_same]; exact hx.new
        have q2 : REnv (zOf X G) (putA ρ h1.length d) (h1 ++ [SO.exc c fs]).length (upd H' a (.frz oe (.own a))) (setO i (.xn c h1.length) σs) (setI i (.ref a) σ) := by
          refine renv_setO ⟨hE.len, fun j y e => ?_⟩ (.xn (u := .own a) (by simp) upd_same hz1 (by rw [putA_same]; exact hz2) dd) i
          obtain ⟨v, e1, r1⟩ := hE.val j y e
          exact ⟨v, e1, r1.ext' kl (by simp) fun j hj => putA_lt hj⟩
        refine hsu a pn ok.suite _ _ _ _ _ _ q2 R2 ?_
        cases er : r (setO i (.xn c h1.length) σs) (h1 ++ [.exc c fs]) with
        | nx σ6 h6 => rw [er] at hP; exact fun ρ3 H3 σ3 E3 R3 q3 => hP ρ3 H3 _ (E2.trans R2 E3) R3 (renv_cutO q3 i)
        | bk σ6 h6 => rw [er] at hP; exact fun ρ3 H3 σ3 E3 R3 q3 => hP ρ3 H3 _ (E2.trans R2 E3) R3 (renv_cutO q3 i)
        | ct σ6 h6 => rw [er] at hP; exact fun ρ3 H3 σ3 E3 R3 q3 => hP ρ3 H3 _ (E2.trans R2 E3) R3 (renv_cutO q3 i)
        | rt v h6 => rw [er] at hP; exact fun ρ3 H3 x3 E3 R3 q3 => hP ρ3 H3 x3 (E2.trans R2 E3) R3 q3
        | exc c' fs' σ6 h6 => rw [er] at hP; exact hP.elim
        | stuck => rw [er] at hP; exact hP.elim
theorem ss_try {E : Nat → TyS → Option Bool} {body : List Stmt} {h₀ : ExceptHandler} {hds : List ExceptHandler} {rb : SF} {l : List SHd} (hT : ExT X G E) (ok : XOk X W) (hb : ∀ (W' : WX) (pn : List (Addr × Obj)) (xe : Value → Shared → Prop), XOk (X.tr pn xe) W' → SSs (X.tr pn xe) G W' body rb) (hh : SHs X G (h₀ :: hds) l)
    (hst : X.stack = X.env :: X.outer := by rfl) (hf : X.env.frame = some X.env.locals := by rfl) : SS X G W (.Try body (h₀ :: hds) [] [] pos) (sTry E rb l) := .of fun ρ σs h σ H D hE hR hP => by
  obtain ⟨l', h1, h2⟩ := hs_ok hT ok.toXOs hh
  refine any_ps (ps_tryZ hst hf ok.nd ok.tk (tb := fun W D σ H => ∀ (pn : List (Addr × Obj)) (xe : Value → Shared → Prop), Takes (X.tr pn xe) W → PassesOwn (model X.prog X.w) X.A X.env xe → tAnySs (X.tr pn xe) body D σ H) (fun W pn xe tk po => ⟨fun pins s σ H D I q => q pn xe tk po pins s I⟩) h1) ?_
  intro pn xe tk po
  refine hb _ pn xe ⟨⟨ok.nd, tk, po, ok.gd, ok.hu⟩, ok.calm⟩ ρ σs h σ H D hE hR ?_
  unfold sTry at hP
  cases er : rb σs h with
  | exc c fs σ1 h1 =>
    rw [er] at hP
    exact fun σ' ρ' H' d xs E1 R1 q1 hx rf => h2 E1 R1 q1 hx rf hP
  | nx σ6 h6 => rw [er] at hP; exact hP
  | bk σ6 h6 => rw [er] at hP; exact hP
  | ct σ6 h6 => rw [er] at hP; exact hP
  | rt v h6 => rw [er] at hP; exact hP
  | stuck => rw [er] at hP; exact hP

/-! ### e.f of a caught exception -/
def rXf (cs : List Nat) (f : Str) (ra : EF) : EF := fun σ h => (ra σ h).bnd fun v h => match v with
  | .xn c j => (match h[j]? with
    | some (.exc c' fs) => if cs.contains c = true then (match fs.lookup f with
      | some u => .ok u h
      | none => .stuck) else .stuck
    | _ => .stuck)
  | _ => .stuck
def XfOk (X : Cx) (G : Nat → Addr) (cs : List Nat) (f : Str) : Prop := ∀ c ∈ cs, XfC X.K (G c) ∧ PySem.W.findIn X.K (.ref (G c)) f = some none
def tXk (K : PySem.W.Frag) (f : Str) (te : TE) : TE := fun σ H Q => te σ H fun x H1 => ∃ (a C d : Addr) (oe : Obj) (u : HO) (fs : List (Str × V)) (v : V), x = .ref a ∧ XfC K C ∧ PySem.W.findIn K (.ref C) f = some none ∧ H1 a = some (.frz oe u) ∧ oe.cls = .ref C ∧ oe.dict = some d ∧ (∃ vs, oe.data = .fields vs) ∧ H1 d = some (.xd fs) ∧ fs.lookup f = some v ∧ Q v H1
theorem pe_xk {e : Expr} {te : TE} {f : Str} (he : PE X e te) (hb : attributeBase e f X.env (eval e X.env) = eval e X.env := by rfl) : PE X (.Attribute e f pos) (tXk X.K f te) := by
  refine ⟨fun pins s σ H Q I h => attr_of hb (thn (he.run pins s σ H _ I h) fun u s1 hh => ?_)⟩
  obtain ⟨x, H1, I1, rx, a, C, d, oe, w, fs, v, ex, T, hno, ea, hc, hd, ⟨vs, hv⟩, ed, l, q⟩ := hh
  subst ex
  obtain rfl : u = Value.ref a := rx
  have ha : s1.heap.get? a = some oe := (show s1.heap.get? a = some oe ∧ _ from I1.hok a _ ea).1
  obtain ⟨mA, hns, hr⟩ := (show ObjOk X.prog X.w H1 s1.heap d (.xd fs) from I1.hok d _ ed)
  obtain ⟨od, ho, hl⟩ := lookIn_ns hns
  obtain ⟨y, hu, ru⟩ := RelO.some_of (v := v) (o := mA f) (by rw [← l]; exact hr f)
  have J : PySem.W.InstAt s1.heap a oe C (some od) := ⟨ha, hc, by unfold PySem.W.notCls; rw [hv] <;> rfl, by rw [hd]; exact ho⟩
  exact HandSPX.exc_get I1.kIn J T.ga T.gg T.exC (PySem.W.findObj_own T.hdC hno rfl (by rw [hl, hu])) (handed_of ru) ⟨v, H1, I1.tok _, ru, q⟩
theorem RHp.exc {Z : Cz} {ρ : Nat → Addr} {h : Hs} {H : Hp} (R : RHp Z ρ h H) {i c : Nat} {fs : List (Str × SV)} (e : h[i]? = some (.exc c fs)) : ∃ vs, H (ρ i) = some (.xd vs) ∧ RF Z ρ h.length H fs vs := R.ob i _ e
theorem se_xf {e : Expr} {ra : EF} {f : Str} {cs : List Nat} (ho : XfOk X G cs f) (sa : SE X G W e ra) (hb : attributeBase e f X.env (eval e X.env) = eval e X.env := by rfl) : SE X G W (.Attribute e f pos) (rXf cs f ra) :=
  se_pe (pe_xk pe_any hb) fun ρ σs h σ H Q hE hR hP => sa ρ σs h σ H _ hE hR (hP.fst fun v h1 ρ1 H1 x _ E1 R1 v1 p1 => by
    split at p1
    · cases v1 with | xn hi ea hc hd hv => ?_
      split at p1
      · rename_i e0
        obtain ⟨vs, f0, t⟩ := R1.exc e0
        split at p1
        · rename_i hcs
          obtain ⟨h1, h2⟩ := ho _ (by simpa using hcs)
          split at p1
          · rename_i e1
            obtain ⟨y, e2, r⟩ := t.lookup.1 _ e1
            exact ⟨_, _, _, _, _, _, _, rfl, h1, h2, ea, hc, hd, hv, f0, e2, PostG.ret R1 r p1⟩
          · exact p1.elim
        · exact p1.elim
      · exact p1.elim
    · exact p1.elim)

/-! ### raise C(e), C an own class over ValueError whose __init__ stores its argument -/
def spInit (K : PySem.W.Frag) (fld : Str) : Sp := fun vs H Q _ => ∃ (a C : Addr) (y : V), vs = [.ref a, y] ∧ OexC K C ∧ PySem.W.findIn K (.ref C) fld = some none ∧ H a = some (exo a C none) ∧ ∀ dx, H dx = none → dx ≠ a → Q .non (upd (upd H dx (exd dx [(fld, y)])) a (exo a C (some dx)))
theorem ok_init {P : Program} {w : World} {K : PySem.W.Frag} {mg : Str → Option Value} {base : Heap} {qual n0 n1 fld : Str} {st : Stmt} {fI : Addr} {fd : FuncData} {p1 p2 p3 p4 : Pos} (F : Fun K "__init__" qual st fI fd) (S : FnScope [n0, n1] [n0, n1] (defScope st)) (bd : defBody st = [.Assign [.Attribute (.Name n0 p1) fld p2] (.Name n1 p3) p4])
    (v0 : Vis (defScope st) n0) (v1 : Vis (defScope st) n1) (d0 : (n0 == ("__debug__" : Str)) = false) (d1 : (n1 == ("__debug__" : Str)) = false) (c0 : (n0 == ("__classdict__" : Str)) = false) (c1 : (n1 == ("__classdict__" : Str)) = false) : FnOk P w K mg base CX0 1 fI fd [n0, n1] (spInit K fld) := by
  refine F.ok S (fun vs H Q E h => ?_) (fun cdv A outer s H vs Q E hr h => ⟨tOst K fld (tVar 0) (tVar 1), ?_, ?_⟩)
  · obtain ⟨a, C, y, rfl, _⟩ := h; rfl
  · rw [bd]
    exact pss_one (ps_ost (pe_var rfl v0 d0 c0) (pe_var rfl v1 d1 c1))
  · obtain ⟨a, C, y, rfl, T, no, ea, q⟩ := h
    exact ⟨_, rfl, _, rfl, a, C, rfl, T, no, .inl ⟨ea, q⟩⟩
def sRaise (c : Nat) (fld : Str) (re : LF) : SF := fun σ h => (re σ h).st σ fun vs h => match vs with
  | [v] => .exc c [(fld, v)] σ h
  | _ => .stuck
theorem ss_raise {k c : Nat} {x n0 n1 fld : Str} {fI : Addr} {fd : FuncData} {e : Expr} {re : LF} {p p2 : Pos} (T : OexC X.K (G c)) (iC : PySem.W.findIn X.K (.ref (G c)) "__init__" = some (some (.ref fI))) (tI : PySem.W.typeIn X.K (.ref fI) = some (.type "function"))
    (F1 : FnOk X.prog X.w X.K X.mg X.base CX0 k fI fd [n0, n1] (spInit X.K fld)) (ok : XOk X W) (hr : Room (k + 1) X.A) (hb : Binds X.K fd [n0, n1] []) (hm : X.mg x = some (.ref (G c))) (noN : PySem.W.findIn X.K (.ref (G c)) fld = some none) (sl : SA X G W [e] re) (hg : Gl X x := by rfl)
    (hdb : (x == ("__debug__" : Str)) = false := by decide) (he : starEach [e] X.env = (false, eval e X.env) :: starEach [] X.env := by rfl) (hpl : (backTo pos (starEach [] X.env)).any (·.1) = false := by rfl) :
    SS X G W (.Raise (some (.Call (.Name x p) [e] [] pos)) none p2) (sRaise c fld re) := .of fun ρ σs h σ H D hE hR hP =>
  any_ps (ps_raise ok.calm ok.tk (pmk_oex T iC tI F1 hr hb .nil L2.pass0 hg hm pa_any hdb he hpl)) (sl ρ σs h σ H _ hE hR (PostS.expr hE hR hP fun vs h1 ρ1 H1 xs _ E1 R1 v1 p1 => by
    split at p1
    · obtain ⟨x, rfl, r⟩ := rvs1 v1
      refine ⟨by simp, fun a na => ⟨a, G c, x, rfl, T, noN, upd_same, fun dx nx ne => ⟨rfl, dx, [(fld, x)], upd_same, ?_, ?_, ?_⟩⟩⟩
      · rw [upd_ne ne, upd_same]
      · rw [upd_ne ne] at nx; exact nx
      · rw [upd_ne ne] at nx
        have eq : upd (del (upd (upd (upd H1 a (exo a (G c) none)) dx (exd dx [(fld, x)])) a (exo a (G c) (some dx))) a) dx (.xd [(fld, x)]) = upd H1 dx (.xd [(fld, x)]) := by
          funext b
          by_cases h1 : b = dx
          · subst h1; rw [upd_same, upd_same]
          · rw [upd_ne h1, upd_ne h1]
            by_cases h2 : b = a
            · subst h2; rw [del_same]; exact na.symm
            · rw [del_ne h2, upd_ne h2, upd_ne h1, upd_ne h2]
        rw [eq]
        exact p1 σ ρ1 _ dx _ (Gro.lay nx) (R1.lay nx) ((hE.ext hR E1).ext R1 (Gro.lay nx)) ⟨upd_same, nx, fun i hi => R1.ne nx hi⟩ (.cons (r.ext' (keep_lay nx) (Nat.le_refl _) fun _ _ => rfl) .nil)
    · exact p1.elim))
end
end Pz

set_option Elab.async false
set_option linter.all false
set_option maxRecDepth 100000
set_option maxHeartbeats 4000001
namespace Pz
open PySem PySem.Spec L2

/-! ### {elt for target in iter if ..}, elt an int or a text -/
section
variable {X : Cx}
def tScK (P : Program) (w : World) (wi : TI) (g : TG) (tt : TT) (te : TE) (vs : List Nat) : TE := fun σ H Q => wi σ H fun J H1 => ∀ D, H1 D = none → ∃ W : Nat → Nat → Hp → Prop, (∃ m, W 0 m (upd H1 D (SetK P w D (fun _ => false) 0))) ∧ ∀ i m H, W i m H →
  (J.stop i H ∧ Q (.ref D) H) ∨ (J.go i H ∧ ∃ Nx : Hp → Prop, (∀ H', Nx H' → ∃ m', m' < m ∧ W (i + 1) m' H') ∧ ∀ x H', J.yld i H x H' → g x (wipe σ vs) H' fun σ2 H2 => wipe σ2 vs = wipe σ vs ∧ tt σ2 H2 fun b H3 =>
    if b = true then te σ2 H3 fun y H4 => ∃ (k : Key) (S : Key → Bool) (n : Nat), y = kV k ∧ H4 D = some (SetK P w D S n) ∧ n + 1 < scanBound ∧ Nx (upd H4 D (SetK P w D (fun j => S j || decide (j = k)) (if S k = true then n else n + 1))) else Nx H3)
theorem newK {P : Program} {w : World} {h : Heap} : (h.push { cls := .type "set", dict := none, data := .set #[] 0 (.fresh 0 0 (!w.params.followText "set-order")) }).SetOf (mixKind P w) h.objs.size (fun _ => false) 0 :=
  ⟨_, #[], 0, _, Heap.get?_push_size _ rfl, ⟨rfl, rfl, rfl⟩, rfl, (fun e he => by simp at he), (fun k => by simp), (by decide), (by rfl), rfl⟩
theorem pe_scK {elt tg iter : Expr} {ifs : List Expr} {scope : Scope} {own : List (Str × Nat)} {pos : Pos} {wi : TI} {g : TG} {tt : TT} {te : TE} (hc : X.calm = true) (hN : X.N.Nodup) (hi : PI X tg iter wi) (ok : BlkOk X.N X.env.scope scope own)
    (hg : ∀ (s : Shared) (H : Hp) (C : Addr) (cl : List (Str × Addr)) (fp : List Addr), PG (X.blk s H scope (compEnvC scope cl C X.env) fp) tg g) (ht : ∀ (s : Shared) (H : Hp) (C : Addr) (cl : List (Str × Addr)) (fp : List Addr), PTs (X.blk s H scope (compEnvC scope cl C X.env) fp) ifs tt)
    (he : ∀ (s : Shared) (H : Hp) (C : Addr) (cl : List (Str × Addr)) (fp : List Addr), PE (X.blk s H scope (compEnvC scope cl C X.env) fp) elt te) (hs : ∀ x, foldedSetIterable iter X.env x = pure x := by intro _; rfl) :
    PE X (.SetComp elt [⟨tg, iter, ifs, 0⟩] scope pos) (tScK X.prog X.w wi g tt te (own.map (·.2))) := by
  refine ⟨fun pins s σ H Q I h => ?_⟩
  rw [PpSet.eval_SetComp]
  have hfree : ∀ y ∈ scope.names, y.2 = .free → ∃ c, X.env.cells.lookup y.1 = some c := fun y hy e => (ok.free y hy e).elim (fun k => I.ok.has _ (.inl k)) fun k => I.ok.has _ (.inr k)
  refine wpAny_comprehension_free (use := none) rfl hs (closure_ok hfree) ok.kind (fun y hy e => by rw [ok.uniq y hy, e]) (thn (hi.run pins s σ H _ I h) fun xv s1 hx => thn hx fun itv s2 h2 => ?_)
  obtain ⟨it, fp, tn, J, H2, e, I2, T, st2, f2, q⟩ := h2
  subst e
  refine PpSet.newSet_ok (newEnv_comp ?_)
  generalize hD : s2.heap.objs.size = D
  have hDn : H2 D = none := I2.hok.fresh (Nat.le_of_eq hD)
  obtain ⟨W, ⟨m0, w0⟩, turn⟩ := q D hDn
  generalize hs3 : ({ s2 with heap := s2.heap.push { cls := .type "set", dict := none, data := .set #[] 0 (.fresh 0 0 (!X.w.params.followText "set-order")) } } : Shared) = s3
  have h3 : s3.heap = s2.heap.push { cls := .type "set", dict := none, data := .set #[] 0 (.fresh 0 0 (!X.w.params.followText "set-order")) } := by rw [← hs3]
  have I3 : Inv X pins σ (upd H2 D (SetK X.prog X.w D (fun _ => false) 0)) s3 := by
    rw [← hs3]
    exact I2.laid (t' := s2.toks) (fun b o e => Heap.get?_push_of_some _ e) (Nat.le_of_eq hD) (by rw [← hD]; exact setK_new newK)
  have f3 : ∀ b ∈ fp, FpOk X pins (upd H2 D (SetK X.prog X.w D (fun _ => false) 0)) b ∧ b < s3.heap.objs.size := fun b hb => by
    obtain ⟨o, e, _⟩ := T.obj _ _ st2 b hb
    have hlt := Heap.lt_size e
    exact ⟨⟨by rw [upd_ne (by rw [← hD]; exact Nat.ne_of_lt hlt)]; exact (f2 b hb).1, (f2 b hb).2⟩, by rw [h3, Heap.size_push]; exact Nat.lt_succ_of_lt hlt⟩
  have st3 : tn 0 s3.heap := T.keep _ _ _ st2 fun b _ o e => by rw [h3]; exact Heap.get?_push_of_some _ e
  have I4 := block_start I3 ok hN f3
  have pg := hg s3 (upd H2 D (SetK X.prog X.w D (fun _ => false) 0)) s3.heap.objs.size (cellsFrom (s3.heap.objs.size + 1) scope.names (cloFrom X.env.cells scope.names [])) fp
  have pt := ht s3 (upd H2 D (SetK X.prog X.w D (fun _ => false) 0)) s3.heap.objs.size (cellsFrom (s3.heap.objs.size + 1) scope.names (cloFrom X.env.cells scope.names [])) fp
  have pe := he s3 (upd H2 D (SetK X.prog X.w D (fun _ => false) 0)) s3.heap.objs.size (cellsFrom (s3.heap.objs.size + 1) scope.names (cloFrom X.env.cells scope.names [])) fp
  show codeAny _ _ (.compStart (.SetComp elt [⟨tg, iter, ifs, 0⟩] scope pos) 0 (.ref it) (.ref D) (compEnvC scope (cellsFrom (s3.heap.objs.size + 1) scope.names (cloFrom X.env.cells scope.names [])) s3.heap.objs.size X.env)) (compPost (model X.prog X.w) X.A X.xe none (EP X pins σ Q) (.ref D) s3.heap.objs.size) { s3 with heap := pushCells (s3.heap.push { cls := .type "dict", data := .dict #[] }) scope.names }
  generalize hce : compEnvC scope (cellsFrom (s3.heap.objs.size + 1) scope.names (cloFrom X.env.cells scope.names [])) s3.heap.objs.size X.env = ce at I4 pg pt pe ⊢
  have cL : ce.locals = s3.heap.objs.size := by subst hce; rfl
  generalize hH3 : upd H2 D (SetK X.prog X.w D (fun _ => false) 0) = H3 at I3 I4 pg pt pe w0 f3
  generalize hs4 : ({ s3 with heap := pushCells (s3.heap.push { cls := .type "dict", data := .dict #[] }) scope.names } : Shared) = s4 at I4 ⊢
  have st4 : tn 0 s4.heap := T.keep _ _ _ st3 fun b _ o e => by rw [← hs4]; exact pushCells_keeps _ _ _ _ (Heap.get?_push_of_some _ e)
  have stat : ∀ {σ' : L2.St} {H' : Hp} {s' : Shared}, Inv (X.blk s3 H3 scope ce fp) [] σ' H' s' → (∀ b ∈ fp, H' b = none) → ∀ b ∈ fp, FpOk (X.blk s3 H3 scope ce fp) [] H' b := fun {σ' H' s'} I' hn b hb =>
    ⟨hn b hb, (I'.ok.exf b hb).1, I'.ok.exfs b hb, .inl hb, fun x c e => (I'.ok.exf b hb).2 x c e, fun p hp => absurd (show p ∈ ([] : List (Addr × Obj)) ++ [] from hp) (by simp)⟩
  have loop : codeAny (model X.prog X.w) X.A (.compLoop (.SetComp elt [⟨tg, iter, ifs, 0⟩] scope pos) 0 (.ref it) (.ref D) ce) (compPost (model X.prog X.w) X.A X.xe none (EP X pins σ Q) (.ref D) s3.heap.objs.size) s4 := by
    refine PpSet.compLoopS_any (fun n s' => ∃ i H', Inv (X.blk s3 H3 scope ce fp) [] (wipe σ (own.map (·.2))) H' s' ∧ tn i s'.heap ∧ (∀ b ∈ fp, H' b = none) ∧ W i n H') ?_ m0 ⟨0, H3, I4, st4, fun b hb => (f3 b hb).1.1, w0⟩
    rintro n s5 ⟨i, H5, I5, st5, n5, w5⟩
    rcases turn i n H5 w5 with ⟨stop, qq⟩ | ⟨go, Nx, hNx, step⟩
    · refine thnF (T.done (X.blk s3 H3 scope ce fp) rfl rfl rfl hc i [] s5 _ H5 (fun _ _ => False) I5 (stat I5 n5) st5 stop) fun r s6 ⟨hr, I6⟩ => ?_
      subst hr
      have I7 : Inv X pins σ H5 s6 := I3.call' (ch := fp) I6.os I6.base I6.hok I6.bare fun b hb => ⟨(f3 b hb).1.2.2.2.1, (f3 b hb).1.2.1, (f3 b hb).1.2.2.2.2.1, (f3 b hb).1.2.2.2.2.2⟩
      have nC : H5 s3.heap.objs.size = none := by have z : H5 ce.locals = none := I6.free; rw [cL] at z; exact z
      obtain ⟨m, hn, _⟩ := I6.loc
      have hn : s6.heap.Ns ce.locals m := hn
      rw [cL] at hn
      obtain ⟨g0, g1, g2, g3, g4, g5⟩ := I3.fpOk (Nat.le_refl _) nC
      exact ⟨m, hn, fun h'' sb => ⟨.ref D, H5, I7.turned (t' := s6.toks) (fun b o hb e => (sb.2 b hb).trans e) g0 g1 g3 g4 g5, rfl, qq⟩⟩
    · refine thnF (T.item (X.blk s3 H3 scope ce fp) rfl rfl rfl hc i [] s5 _ H5 (fun _ _ => False) I5 (stat I5 n5) st5 go) fun r s6 ⟨u, hr, h6⟩ => ?_
      subst hr
      refine thnF h6 fun _ s7 ⟨x, H7, I7, r7, y7, st7, n7⟩ => ?_
      refine thnF (pg.run _ s7 _ H7 x u _ (I7.pinned (stat I7 n7) (T.obj _ _ st7)) r7 (step x H7 y7)) fun _ s8 ⟨σ8, H8, I8, hw8, q8⟩ => ?_
      refine thnF (pt.run _ s8 σ8 H8 _ I8 q8) fun b s9 ⟨H9, I9, q9⟩ => ?_
      have fin : ∀ {s' : Shared} {H' : Hp}, Inv (X.blk s3 H3 scope ce fp) ([] ++ pinsAt fp s7.heap) σ8 H' s' → Nx H' → ∃ m, m < n ∧ ∃ i H', Inv (X.blk s3 H3 scope ce fp) [] (wipe σ (own.map (·.2))) H' s' ∧ tn i s'.heap ∧ (∀ b ∈ fp, H' b = none) ∧ W i m H' := fun {s' H'} I' nx => by
        obtain ⟨m', hm, w'⟩ := hNx H' nx
        have pin' : ∀ b ∈ fp, ∀ o, s7.heap.get? b = some o → s'.heap.get? b = some o ∧ H' b = none := fun b hb o e => let z := I'.pin (b, o) (List.mem_append_right _ (List.mem_append_right _ (mem_pinsAt hb e))); ⟨z.1, z.2.1⟩
        refine ⟨m', hm, i + 1, H', (I'.unpinned (pins := [])).weak (by rw [← hw8, wipe_length]) (fun j v e => by rw [← hw8] at e; exact (wipe_some e).1), T.keep _ _ _ st7 fun b hb o e => (pin' b hb o e).1, fun b hb => ?_, w'⟩
        obtain ⟨o, e, _⟩ := T.obj _ _ st7 b hb
        exact (pin' b hb o e).2
      cases b with
      | false => simp only [Bool.false_eq_true, if_false] at q9 ⊢; exact fin I9 q9
      | true =>
        simp only [if_true] at q9 ⊢
        refine thnF (pe.run _ s9 σ8 H9 _ I9 q9) fun z s10 ⟨yv, H10, I10, r10, k, S0, n0, ey, hD10, hz10, nx⟩ => ?_
        subst ey
        refine thnF (mt_saddK (X := X.blk s3 H3 scope ce fp) _ s10 σ8 H10 (.ref D) [kV k] (.ref D) [z] (fun _ H' => Nx H') I10 rfl (.cons r10 .nil) ⟨D, k, S0, n0, rfl, rfl, hD10, hz10, nx⟩) fun _ s11 ⟨_, H11, I11, _, nx'⟩ => fin I11 nx'
  exact PpSet.codeAny_compStart_set loop (T.self X.A 0 _ _ _ st4 loop)
end

/-! ### .. in the relation -/
def keyS : SV → Option Key
  | .int i => some (.inl i)
  | .str x => some (.inr x)
  | _ => none
def addK (ks : List Key) (k : Key) : List Key := if hasK ks k = true then ks else ks ++ [k]
theorem hasK_iff {ks : List Key} {k : Key} : hasK ks k = true ↔ k ∈ ks := by
  unfold hasK
  rw [List.any_eq_true]
  exact ⟨fun ⟨j, h1, h2⟩ => of_decide_eq_true h2 ▸ h1, fun h => ⟨k, h, decide_eq_true rfl⟩⟩
theorem addK_fun (ks : List Key) (k : Key) : hasK (addK ks k) = fun j => hasK ks j || decide (j = k) := by
  funext j
  rw [Bool.eq_iff_iff]
  simp only [Bool.or_eq_true, decide_eq_true_eq]
  unfold addK
  split
  · rename_i h
    exact ⟨.inl, fun e => e.elim id fun e => by rw [e]; exact h⟩
  · rw [hasK_iff, List.mem_append, List.mem_singleton, hasK_iff]
theorem addK_len (ks : List Key) (k : Key) : (addK ks k).length = if hasK ks k = true then ks.length else ks.length + 1 := by
  unfold addK
  split <;> simp
theorem addK_nd {ks : List Key} (k : Key) (h : ks.Nodup) : (addK ks k).Nodup := by
  unfold addK
  split
  · exact h
  · rename_i z
    rw [List.nodup_append]
    refine ⟨h, by simp, fun a ha b hb e => z ?_⟩
    rw [List.mem_singleton] at hb
    rw [hasK_iff, ← hb, ← e]; exact ha
theorem keyS_rv {Z : Cz} {ρ : Nat → Addr} {n : Nat} {H : Hp} {v : SV} {x : V} {k : Key} (r : RV Z ρ n H v x) (e : keyS v = some k) : x = kV k := by
  unfold keyS at e
  split at e
  · cases e; cases r; rfl
  · cases e; cases r; rfl
  · cases e
def scGo (g : GF) (tt : SEnv → Hs → Out Bool) (te : EF) (chk : Hs → Bool) (σw : SEnv) : List SV → Hs → List Key → Out (List Key)
  | [], h, acc => if chk h = true then .ok acc h else .stuck
  | x :: xs, h, acc => if chk h = true ∧ acc.length < 4000 then (match g x σw with
    | none => .stuck
    | some σ2 => match tt σ2 h with
      | .ok true h2 => (match te σ2 h2 with
        | .ok y h3 => (match keyS y with
          | some k => scGo g tt te chk σw xs (gcV h 0 h3) (addK acc k)
          | none => .stuck)
        | _ => .stuck)
      | .ok false h2 => scGo g tt te chk σw xs (gcV h 0 h2) acc
      | _ => .stuck) else .stuck
def rSc (own : List Nat) (ri : IF) (g : GF) (tt : SEnv → Hs → Out Bool) (te : EF) : EF := fun σ h => (ri σ h).bnd fun p h => match scGo g tt te p.2 (wipeS σ own) p.1 h [] with
  | .ok acc h => .ok (.ref h.length) (h ++ [.set acc])
  | _ => .stuck
section
variable {Z : Cz} {ρ : Nat → Addr} {h : Hs} {H : Hp} {D : Addr} {u u' : HO}
def OffK (o : HO) : Prop := ¬ ((∃ xs, o = .tup xs) ∨ (∃ b u, o = .frz b u) ∨ (∃ y, o = .own y))
theorem keep_offK (hD : H D = some u) (hu : OffK u) : ∀ a o, H a = some o → ((∃ xs, o = .tup xs) ∨ (∃ b u, o = .frz b u) ∨ (∃ y, o = .own y)) → upd H D u' a = some o := fun a o e k => by
  have ne : a ≠ D := fun z => by subst z; rw [hD] at e; cases e; exact hu k
  rw [upd_ne ne]; exact e
theorem RHp.offK (R : RHp Z ρ h H) (hD : H D = some u) (hu : OffK u) (hne : ∀ i, i < h.length → ρ i ≠ D) : RHp Z ρ h (upd H D u') :=
  ⟨fun i o e => (R.ob i o e).ext' (keep_offK hD hu) (Nat.le_refl _) (fun _ _ => rfl) (upd_ne (hne i (List.getElem?_eq_some_iff.mp e).1)), R.inj⟩
theorem offK_set {P : Program} {w : World} {a : Addr} {S : Key → Bool} {n : Nat} : OffK (SetK P w a S n) := by
  rintro (⟨_, k⟩ | ⟨_, _, k⟩ | ⟨_, k⟩) <;> cases k
end
section
variable {X : Cx} {G : Nat → Addr} {W : WX} {pos : Pos} {tg : Expr} {tt : SEnv → Hs → Out Bool}
theorem sc_post {elt iter : Expr} {ifs : List Expr} {scope : Scope} {vs : List Nat} {ri : IF} {g : GF} {te : EF} {is : List Nat} (si : SI X G W tg iter ri) (sg : ∀ (s : Shared) (H : Hp) (C : Addr) (cl : List (Str × Addr)) (fp : List Addr), SG (X.blk s H scope (compEnvC scope cl C X.env) fp) G tg g is) (hown : ∀ i ∈ is, i ∈ vs)
    (st : ∀ (s : Shared) (H : Hp) (C : Addr) (cl : List (Str × Addr)) (fp : List Addr), STs (X.blk s H scope (compEnvC scope cl C X.env) fp) G W0 ifs tt) (se : ∀ (s : Shared) (H : Hp) (C : Addr) (cl : List (Str × Addr)) (fp : List Addr), SE (X.blk s H scope (compEnvC scope cl C X.env) fp) G W0 elt te)
    {ρ : Nat → Addr} {σs : SEnv} {h : Hs} {σ : L2.St} {H : Hp} {Q : VK} (hE : REnv (zOf X G) ρ h.length H σs σ) (hR : RHp (zOf X G) ρ h H) (hP : PostE (zOf X G) W ρ h H σ (rSc vs ri g tt te σs h) Q) : tScK X.prog X.w (tAnyI X tg iter) (gAll X scope tg) (tsAll X scope ifs) (eAll X scope elt) vs σ H Q := by
  refine si ρ σs h σ H _ hE hR (hP.fst fun p h1 ρ1 H1 J _ E1 R1 hJ p1 D hD => ?_)
  have hJ := hJ h1 rfl R1
  have hEw := renv_wipe (hE.ext hR E1) vs
  let Fin : Out (List Key) → Prop := fun r => match r with
    | .ok acc h => PostE (zOf X G) W ρ1 h1 H1 σ (.ok (.ref h.length) (h ++ [.set acc])) Q
    | _ => False
  have p1' : Fin (scGo g tt te p.2 (wipeS σs vs) p.1 h1 []) := by
    cases e : scGo g tt te p.2 (wipeS σs vs) p.1 h1 [] with
    | ok acc h => rw [e] at p1; exact p1
    | exc c fs h => rw [e] at p1; exact p1.elim
    | stuck => rw [e] at p1; exact p1.elim
  let Wd : Nat → Hp → Prop := fun i H' => ∃ ρ2 h2 acc, Gro ρ1 h1 H1 ρ2 h2 H' ∧ RHp (zOf X G) ρ2 h2 H' ∧ H' D = some (SetK X.prog X.w D (hasK acc) acc.length) ∧ (∀ i, i < h2.length → ρ2 i ≠ D) ∧ acc.Nodup ∧ Fin (scGo g tt te p.2 (wipeS σs vs) (p.1.drop i) h2 acc)
  refine ⟨fun i m H' => m = p.1.length - i ∧ i ≤ p.1.length ∧ Wd i H', ⟨p.1.length, by simp, Nat.zero_le _, ρ1, h1, [], Gro.lay hD, R1.lay hD, upd_same, fun i hi => R1.ne hD hi, List.nodup_nil, p1'⟩, ?_⟩
  rintro i m H2 ⟨rfl, hi, ρ2, h2, acc, E2, R2, hD2, ne2, nd2, p2⟩
  by_cases hlt : i < p.1.length
  · right
    rw [List.drop_eq_getElem_cons hlt] at p2
    unfold scGo at p2
    split at p2
    · rename_i hc
      obtain ⟨hgo, hy⟩ := hJ.turn i p.1[i] ρ2 h2 H2 E2 R2 hc.1 (by simp [hlt])
      refine ⟨hgo, Wd (i + 1), fun H' q => ⟨_, by omega, rfl, hlt, q⟩, fun x H3 y => ?_⟩
      obtain ⟨R3, E3, v3⟩ := hy x H3 y
      have hD3 := E3.fr D _ hD2 ne2
      split at p2
      · exact p2.elim
      · rename_i σ2 e1
        intro s0 H0 C0 cl0 fp0
        refine sg s0 H0 C0 cl0 fp0 ρ2 _ _ σ2 _ _ H3 x _ ((hEw.ext R1 E2).ext R2 E3) v3 e1 fun σ3 ws3 q3 => ⟨by rw [ws3 vs hown, wipe_idem], ?_⟩
        intro s1 H1' C1 cl1 fp1
        refine st s1 H1' C1 cl1 fp1 ρ2 σ2 h2 σ3 H3 _ q3 R3 ?_
        cases ht : tt σ2 h2 with
        | exc c fs h => rw [ht] at p2; exact p2.elim
        | stuck => rw [ht] at p2; exact p2.elim
        | ok b h3 =>
          intro ρ3 H4 b' E4 R4 eb
          obtain rfl : b = b' := eb
          have hD4 := E4.fr D _ hD3 ne2
          have ne3 : ∀ i, i < h3.length → ρ3 i ≠ D := fun i hi z => by
            by_cases hl : i < h2.length
            · exact ne2 i hl ((E4.agree i hl).symm.trans z)
            · have w := E4.fresh i (Nat.not_lt.mp hl) hi
              rw [z, hD3] at w; cases w
          cases b with
          | false =>
            rw [ht] at p2
            dsimp only at p2
            rw [if_neg Bool.false_ne_true]
            obtain ⟨a1, a2, a3⟩ := gcV_ok (m := 0) R3 R4 E4
            refine ⟨ρ3, gcV h2 0 h3, acc, (E2.trans R2 E3).trans R3 a2, a1, hD4, fun i hi => ne3 i ?_, nd2, p2⟩
            rcases a3 with e | ⟨e, _⟩
            · rw [← e]; exact hi
            · rw [e] at hi; exact Nat.lt_of_lt_of_le hi E4.len
          | true =>
            rw [ht] at p2
            dsimp only at p2
            rw [if_pos rfl]
            intro s2 H2' C2 cl2 fp2
            refine se s2 H2' C2 cl2 fp2 ρ3 σ2 h3 σ3 H4 _ (q3.ext R3 E4) R4 ?_
            cases hte : te σ2 h3 with
            | exc c fs h => rw [hte] at p2; exact p2.elim
            | stuck => rw [hte] at p2; exact p2.elim
            | ok y h4 =>
              rw [hte] at p2
              dsimp only at p2
              split at p2
              · rename_i k ek
                intro ρ4 H5 yv E5 R5 r5
                have hD5 := E5.fr D _ hD4 ne3
                have E45 := E4.trans R4 E5
                have ne4 : ∀ i, i < h4.length → ρ4 i ≠ D := fun i hi z => by
                  by_cases hl : i < h2.length
                  · exact ne2 i hl ((E45.agree i hl).symm.trans z)
                  · have w := E45.fresh i (Nat.not_lt.mp hl) hi
                    rw [z, hD3] at w; cases w
                obtain ⟨a1, a2, a3⟩ := gcV_ok (m := 0) R3 R5 E45
                have ne5 : ∀ i, i < (gcV h2 0 h4).length → ρ4 i ≠ D := fun i hi => ne4 i (by
                  rcases a3 with e | ⟨e, _⟩
                  · rw [← e]; exact hi
                  · rw [e] at hi; exact Nat.lt_of_lt_of_le hi E45.len)
                refine ⟨k, hasK acc, acc.length, keyS_rv r5 ek, hD5, ?_, ρ4, gcV h2 0 h4, addK acc k, ?_, a1.offK hD5 offK_set ne5, ?_, ne5, addK_nd k nd2, p2⟩
                · have := hc.2; unfold scanBound; omega
                · have G0 := (E2.trans R2 E3).trans R3 a2
                  refine ⟨G0.len, G0.agree, fun a o e hx => ?_, G0.fresh⟩
                  rw [upd_ne (ne_of_none e hD)]
                  exact G0.fr a o e hx
                · rw [upd_same, addK_fun, addK_len]
              · exact p2.elim
    · exact p2.elim
  · left
    obtain rfl : i = p.1.length := by omega
    rw [List.drop_length] at p2
    unfold scGo at p2
    split at p2
    · rename_i hc
      refine ⟨hJ.stop ρ2 h2 H2 E2 R2 hc, ?_⟩
      refine PostG.at (v := SV.ref h2.length) ?_ (R2.adoptO (o := .set acc) ne2 ⟨nd2, hD2⟩) ?_ (show PostE (zOf X G) W ρ1 h1 H1 σ (.ok (.ref h2.length) (h2 ++ [.set acc])) Q from p2)
      · refine ⟨by have := E2.len; simp; omega, fun i hi => ?_, E2.fr, fun j h1' h2' => ?_⟩
        · rw [putA_lt (Nat.lt_of_lt_of_le hi E2.len)]; exact E2.agree i hi
        · by_cases hj : j < h2.length
          · rw [putA_lt hj]; exact E2.fresh j h1' hj
          · obtain rfl : j = h2.length := by simp at h2'; omega
            rw [putA_same]; exact hD
      · have e : RV (zOf X G) (putA ρ2 h2.length D) (h2 ++ [SO.set acc]).length H2 (.ref h2.length) (.ref (putA ρ2 h2.length D h2.length)) := .ref (by simp)
        rw [putA_same] at e; exact e
    · exact p2.elim
theorem se_sc {elt iter : Expr} {ifs : List Expr} {scope : Scope} (own : List (Str × Nat)) {ri : IF} {g : GF} {te : EF} {is : List Nat} (ok : XOk X W) (si : SI X G W tg iter ri) (bo : blkC X.N X.env.scope scope own = true)
    (sg : ∀ (s : Shared) (H : Hp) (C : Addr) (cl : List (Str × Addr)) (fp : List Addr), XOk (X.blk s H scope (compEnvC scope cl C X.env) fp) W0 → SG (X.blk s H scope (compEnvC scope cl C X.env) fp) G tg g is) (hown : is.all (fun i => (own.map (·.2)).contains i) = true)
    (st : ∀ (s : Shared) (H : Hp) (C : Addr) (cl : List (Str × Addr)) (fp : List Addr), XOk (X.blk s H scope (compEnvC scope cl C X.env) fp) W0 → STs (X.blk s H scope (compEnvC scope cl C X.env) fp) G W0 ifs tt)
    (se : ∀ (s : Shared) (H : Hp) (C : Addr) (cl : List (Str × Addr)) (fp : List Addr), XOk (X.blk s H scope (compEnvC scope cl C X.env) fp) W0 → SE (X.blk s H scope (compEnvC scope cl C X.env) fp) G W0 elt te)
    (hs : ∀ x, foldedSetIterable iter X.env x = pure x := by intro _; rfl) : SE X G W (.SetComp elt [⟨tg, iter, ifs, 0⟩] scope pos) (rSc (own.map (·.2)) ri g tt te) :=
  se_pe (pe_scK (own := own) (g := gAll X scope tg) (tt := tsAll X scope ifs) (te := eAll X scope elt) ok.calm ok.nd pi_any (blkOk_by bo) (fun s H C cl fp => ⟨fun pins s' σ H v u Q I r q => q s _ C cl fp pins s' u I r⟩) (fun s H C cl fp => ⟨fun pins s' σ H Q I q => q s _ C cl fp pins s' I⟩) (fun s H C cl fp => ⟨fun pins s' σ H Q I q => q s _ C cl fp pins s' I⟩) hs)
    fun ρ σs h σ H Q hE hR hP => sc_post si (fun s H C cl fp => sg s H C cl fp ok.blk) (fun i hi => by have := List.all_eq_true.mp hown i hi; simpa using this) (fun s H C cl fp => st s H C cl fp ok.blk) (fun s H C cl fp => se s H C cl fp ok.blk) hE hR hP
end

/-! ### len of a set, i in range(a, b) -/
section
variable {X : Cx} {G : Nat → Addr} {W : WX} {pos : Pos}
theorem call_lenK : CallR X (.builtin "len") (fun xs H Q => ∃ (a : Addr) (S : Key → Bool) (n : Nat), xs = [.ref a] ∧ H a = some (SetK X.prog X.w a S n) ∧ n < 1000000 ∧ Q (.int n) H) := by
  intro pins s σ H xs us Q I r h
  obtain ⟨a, S, n, rfl, ha, hn, q⟩ := h
  obtain ⟨u, rfl, ru⟩ := vals1 r
  obtain rfl : u = Value.ref a := ru
  obtain ⟨o, es, ep, t, ho, hex, hd, _, _, _, hf, hsz⟩ := setK_get I ha
  exact call_len_set ho hex hd hf (by omega) ⟨.int n, H, I.tok _, ⟨_, by rw [hsz]⟩, q⟩
theorem RHp.set {Z : Cz} {ρ : Nat → Addr} {h : Hs} {H : Hp} (R : RHp Z ρ h H) {i : Nat} {ks : List Key} (e : h[i]? = some (.set ks)) : ks.Nodup ∧ H (ρ i) = some (SetK Z.P Z.w (ρ i) (hasK ks) ks.length) := R.ob i _ e
def bLen2 (us : List SV) (h : Hs) : Out SV := match us with
  | [.ref a] => (match h[a]? with
    | some (.set ks) => if ks.length < 1000000 then .ok (.int ks.length) h else .stuck
    | _ => bLen us h)
  | _ => bLen us h
theorem fn_len2 : FnS X G (.builtin "len") bLen2 := .of fun W ρ h H σ us xs Q hR t hP => by
  unfold bLen2 at hP
  split at hP
  · split at hP
    · rename_i e0
      obtain ⟨x, rfl, r⟩ := rvs1 t
      cases r with | ref hi => ?_
      split at hP
      · rename_i hz
        exact fun pins s σ' ws I rw => call_lenK pins s σ' H _ ws Q I rw ⟨_, _, _, rfl, (hR.set e0).2, hz, PostG.ret hR (.int _) hP⟩
      · exact hP.elim
    · exact fn_len W ρ h H σ _ xs Q hR t hP
  · exact fn_len W ρ h H σ us xs Q hR t hP
/-- range(a, b) as a value -/
def bRng : List SV → Hs → Out SV
  | [.int i, .int j], h => .ok (.rng i j) h
  | _, _ => .stuck
theorem call_rng : CallR X (.type "range") (fun vs H Q => ∃ i j, vs = [V.int i, V.int j] ∧ ∀ (p : Addr) (o : Obj), H p = none → Q (.ref p) (upd H p (.frz o (.rng i j)))) := by
  intro pins s σ H vs us Q I r h
  obtain ⟨i, j, rfl, q⟩ := h
  obtain ⟨u1, u2, rfl, ⟨t, rfl⟩, ⟨u, rfl⟩⟩ := vals2 r
  refine call_range_2 ⟨.ref s.heap.objs.size, _, I.laid (t' := s.toks + 1) (o := .frz _ (.rng i j)) (fun b o e => Heap.get?_push_of_some _ e) (Nat.le_refl _) ⟨Heap.get?_push_size _ rfl, t, u, s.toks, Heap.get?_push_size _ rfl⟩, rfl, q _ _ (I.hok.fresh (Nat.le_refl _))⟩
theorem fn_rng : FnS X G (.type "range") bRng := fns_of call_rng fun W ρ h H σ us xs Q hR t hP => by
  unfold bRng at hP
  split at hP
  · obtain ⟨x, y, rfl, r1, r2⟩ := rvs2 t
    cases r1; cases r2
    exact ⟨_, _, rfl, fun p o hp => PostG.at (Gro.lay hp) (hR.lay hp) (.rng upd_same) hP⟩
  · exact hP.elim
theorem rng_has {pins : List (Addr × Obj)} {σ : L2.St} {H : Hp} {s : Shared} {a : Addr} {o : Obj} {lo hi i : Int} {k : Tok} {Q : Bool → Shared → Prop} (I : Inv X pins σ H s) (ha : H a = some (.frz o (.rng lo hi))) (h : ∀ t, Q (decide (lo ≤ i ∧ i < hi)) { s with toks := t }) : wpAny (model X.prog X.w) X.A (contains (.ref a) (.int i k)) Q X.xe s := by
  obtain ⟨_, t1, t2, t3, ho⟩ := (show s.heap.get? a = some o ∧ ObjOk X.prog X.w H s.heap a (.rng lo hi) from I.hok a _ ha)
  refine wpAny_contains_slot (T := "range") ⟨_, ho, rfl⟩ F.slot_range_contains (call_meets F.slot_range_contains ⟨_, ho, rfl⟩ F.entry_range_contains (F.args_range_contains_2 _ _) (q_contains a lo hi i t1 t2 t3 k) ⟨ho, wpAny_truthy_bool ?_⟩)
  rw [place1]
  exact h _
def oIn2 : SV → SV → Hs → Out SV := fun u v h => match v with
  | .rng lo hi => (match u with
    | .int i => .ok (.bl (decide (lo ≤ i ∧ i < hi))) h
    | _ => .stuck)
  | _ => oIn u v h
def oNotIn2 : SV → SV → Hs → Out SV := fun u v h => match v with
  | .rng lo hi => (match u with
    | .int i => .ok (.bl (!decide (lo ≤ i ∧ i < hi))) h
    | _ => .stuck)
  | _ => oNotIn u v h
theorem os_in2 (ok : XOs X W) : OpS X G W (compareOp .In) oIn2 := .of fun ρ h H σ u v x y Q hR r1 r2 hP pins s σ' a b I ra rb => by
  unfold oIn2 at hP
  split at hP
  · split at hP
    · cases r1; cases r2 with | rng q => ?_
      obtain ⟨k, rfl⟩ := ra
      obtain rfl : b = Value.ref _ := rb
      exact wpAny_bind (rng_has I q fun t => wpAny_pure ⟨.bl _, H, I.tok _, rfl, PostG.ret hR (.bl _) hP⟩)
    · exact hP.elim
  · exact os_in ok ρ h H σ u v x y Q hR r1 r2 hP pins s σ' a b I ra rb
theorem os_notin2 (ok : XOs X W) : OpS X G W (compareOp .NotIn) oNotIn2 := .of fun ρ h H σ u v x y Q hR r1 r2 hP pins s σ' a b I ra rb => by
  unfold oNotIn2 at hP
  split at hP
  · split at hP
    · cases r1; cases r2 with | rng q => ?_
      obtain ⟨k, rfl⟩ := ra
      obtain rfl : b = Value.ref _ := rb
      exact wpAny_bind (rng_has I q fun t => wpAny_pure ⟨.bl _, H, I.tok _, rfl, PostG.ret hR (.bl _) hP⟩)
    · exact hP.elim
  · exact os_notin ok ρ h H σ u v x y Q hR r1 r2 hP pins s σ' a b I ra rb
end
end Pz

set_option Elab.async false
set_option linter.all false
set_option maxRecDepth 100000
set_option maxHeartbeats 2000001
namespace Pz
open PySem PySem.Spec L2
open PyProof.Rows (IntsAre AllBare)

/-! ### what a row's text brings -/
def GvK (K : PySem.W.Frag) (mg : Str → Option Value) (G : Nat → Addr) (x : Str) (v : SV) : Prop := ∃ u y, mg x = some u ∧ RelV y u ∧ ∀ (P : Program) (w : World) (ρ : Nat → Addr) (n : Nat) (H : Hp), RV ⟨P, w, K, G⟩ ρ n H v y
theorem gv_of {X : Cx} {G : Nat → Addr} {x : Str} {v : SV} (h : GvK X.K X.mg G x v) : GV X G x v := by
  obtain ⟨u, y, a, b, c⟩ := h
  exact ⟨u, y, a, b, fun ρ n H => c _ _ ρ n H⟩
structure DefA (K : PySem.W.Frag) (mg : Str → Option Value) (x : Str) (f : Addr) (fd : FuncData) (ps : List Str) : Prop where
  mg : mg x = some (.ref f)
  kp : PySem.W.keepIn K (.ref f) = true
  bi : Binds K fd ps []
structure ExD (P : Program) (w : World) (K : PySem.W.Frag) (mg : Str → Option Value) (base : Heap) (G : Nat → Addr) (c : Nat) (x n0 n1 : Str) (fI : Addr) (fd : FuncData) : Prop where
  T : OexC K (G c)
  iC : PySem.W.findIn K (.ref (G c)) "__init__" = some (some (.ref fI))
  tI : PySem.W.typeIn K (.ref fI) = some (.type "function")
  F1 : FnOk P w K mg base CX0 1 fI fd [n0, n1] (spInit K n1)
  bi : Binds K fd [n0, n1] []
  mg : mg x = some (.ref (G c))
  no : PySem.W.findIn K (.ref (G c)) n1 = some none

theorem blkW {N : List Str} {sc scope : Scope} {own : List (Str × Nat)} (h : blkC N sc scope own = true) : blkC N sc scope own = true := h

/-- no star -/
def plainE : Expr → Bool
  | .Starred .. => false
  | _ => true
theorem star_plain {e : Expr} {es : List Expr} {env : PySem.Env} (h : plainE e = true) : starEach (e :: es) env = (false, eval e env) :: starEach es env := by
  cases e <;> first | rfl | exact Bool.noConfusion h
theorem sa_consP {X : Cx} {G : Nat → Addr} {W : WX} {a : Expr} {es : List Expr} {ra : EF} {re : LF} (s : SE X G W a ra) (sl : SA X G W es re) (hp : plainE a = true := by rfl) : SA X G W (a :: es) (lCons ra re) := sa_cons s sl (star_plain hp)
/-- a statement's blocks -/
def subA : Stmt → List Stmt
  | .If _ a _ _ => a
  | .For _ _ a _ _ => a
  | .While _ a _ _ => a
  | _ => []
def subB : Stmt → List Stmt
  | .If _ _ b _ => b
  | _ => []

theorem exm_mk {K : PySem.W.Frag} {c k : Addr} {b : Bool} (h1 : PySem.W.subIn K (.ref k) (.type "BaseException") = some true) (h2 : PySem.W.isClsIn K k = true) (h3 : PySem.W.typeIn K (.ref k) = some (.type "type")) (h4 : PySem.W.subIn K (.ref c) (.ref k) = some b) : PySem.W.exmOne K (.ref c) (.ref k) = some b := by
  have e1 : (PySem.W.subIn K (.ref k) (.type "BaseException") == some true) = true := by rw [h1] <;> rfl
  have e2 : ((PySem.W.clsIn K k).isSome && PySem.W.typeIn K (.ref k) == some (.type "type")) = true := by
    have q : (PySem.W.clsIn K k).isSome = true := h2
    rw [q, h3] <;> rfl
  unfold PySem.W.exmOne
  rw [if_pos e1]
  exact (if_pos e2).trans h4

/-! ### the law's own call -/
theorem scr_rv {Z : Cz} {ρ : Nat → Addr} {n : Nat} {H : Hp} {a : Addr} {ns : List Int} (h : (∃ o, H a = some (.frz o (.lst (ns.map V.int)))) ∨ (∀ H', SqL Z.K H' a (ns.map V.int))) : RV Z ρ n H (.scr ns) (.ref a) := .scr h
theorem call_G {P : Program} {w : World} {K : PySem.W.Frag} {mg mb : Str → Option Value} {G : Nat → Addr} {k : Nat} {fa a : Addr} {fd : FuncData} {x : Str} {F : FF} {s₁ : Shared} {vs : List Value} {ns : List Int} {hz : Hs}
    (KX : K.In s₁.heap) (hns : s₁.heap.Ns mainGlobals mg) (hb : s₁.heap.Ns builtinsNs mb) (hbb : ∀ x : Str, x ≠ "__name__" → mb x = bootBuiltins x) (hlim : s₁.heap.NoLimit) (hg : s₁.gens = #[]) (ha : s₁.heap.get? a = some { cls := .type "list", data := .seq vs.toArray }) (hi : IntsAre vs ns) (hl : ns.length ≤ sizeLine) (hr : Room k callerA)
    (hF : ∀ base : Heap, K.In base → base.Ns mainGlobals mg → FnG P w K mg base G k fa fd [x] F) (hbind : ∀ (s : Shared) (u : Value), BindsTo s fd ⟨[u], []⟩ [(x, u)]) (hz : F [.scr ns] [] = .ok (.bl true) hz) :
    codeAny (model P w) callerA (.call (.ref fa) ⟨[.ref a], []⟩) (fun r s' => r = .ok (.ret (.bool true)) ∧ OldK s₁.heap s'.heap ∧ s'.os = s₁.os ∧ AllBare s'.gens) s₁ := by
  have rv := vals_ints hi
  have lenV := hi.length
  have core : ∀ H : Hp, Only H → ((∃ o, H a = some (.frz o (.lst (ns.map V.int)))) ∨ (∀ H', SqL K H' a (ns.map V.int))) → HOk P w H s₁.heap → (∀ b, H b ≠ none → b = a) → (H a ≠ none → K.lookup a = none) →
      codeAny (model P w) callerA (.call (.ref fa) ⟨[.ref a], []⟩) (fun r s' => r = .ok (.ret (.bool true)) ∧ OldK s₁.heap s'.heap ∧ s'.os = s₁.os ∧ AllBare s'.gens) s₁ := fun H hO hS hok hA hK => by
    have baseOf : ∀ {b : Addr} {o : Obj}, s₁.heap.get? b = some o → H b = none → (hidT s₁.heap H).get? b = some o := fun e n => hidT_get e n
    have isA : ∀ {b : Addr} {u : HO}, H b = some u → b = a := fun {b u} q => hA b (by rw [q]; simp)
    have noA : ∀ {b : Addr} {o : Obj} {es : Array DictEntry} {ep : Nat}, s₁.heap.get? b = some o → o.data = .dict es ep → H b = none := fun {b o es ep} e d => by
      cases q : H b with
      | none => rfl
      | some u =>
        rw [isA q, ha] at e; cases e
        exact Data.noConfusion (show Data.seq vs.toArray _ = Data.dict es ep from d)
    have nsK : ∀ {b : Addr} {m : Str → Option Value}, s₁.heap.Ns b m → (hidT s₁.heap H).Ns b m := fun {b m} ⟨o, es, ep, e, d, r⟩ => ⟨o, es, ep, baseOf e (noA e d), d, r⟩
    have hKb : K.In (hidT s₁.heap H) := fun b o e => baseOf (KX b o e) (by
      cases q : H b with
      | none => rfl
      | some u => obtain rfl := isA q; rw [hK (by rw [q]; simp)] at e; cases e)
    have hM : Mod K mg (hidT s₁.heap H) := ⟨hKb, nsK hns, ⟨mb, nsK hb, hbb⟩, let ⟨mc, h1, h2⟩ := hlim; ⟨mc, nsK h1, h2⟩⟩
    have e0 : Env0 P w K mg (hidT s₁.heap H) callerA [] s₁ H := ⟨rfl, hM, fun b o e => of_hidT e, Nat.le_of_eq (hidT_size _ _), trivial, fun b hb => absurd (show b ∈ ([] : List Addr) from hb) (by simp), hok, .of_eq hg⟩
    refine codeAny_mono ((hF _ hKb (nsK hns)).run callerA [] s₁ H ⟨[.ref a], []⟩ [.ref a] [.ref a] (fun _ => 0) [] [.scr ns] (fun v _ => v = .bl true) (fun _ _ _ => False) hr rfl e0 (hbind s₁ (.ref a)) (.cons rfl .nil) RHp.nil (.cons (scr_rv hS) .nil) rfl ?_) fun r s' h => ?_
    · rw [hz]
      exact fun ρ' H' x E R r => by cases r; rfl
    · cases r with
      | error e => obtain ⟨_, _, _, _, _, _, _, _, _, _, _, _, q⟩ := h; exact q.elim
      | ok fl =>
        cases fl with
        | next => exact False.elim h
        | brk => exact False.elim h
        | cont => exact False.elim h
        | ret u =>
          obtain ⟨v, H', os, bare, un, hok', r', q⟩ := h
          obtain rfl : v = .bl true := q
          obtain rfl : u = Value.bool true := r'
          refine ⟨rfl, OldK.of_keep fun b o e => ?_, os, bare⟩
          cases q : H b with
          | none => exact un.keep b o e q (by intro z; exact absurd (show b ∈ ([] : List Addr) from z) (by simp)) (by simp)
          | some u =>
            rcases hO b with z | ⟨ob, xs, z⟩
            · rw [q] at z; cases z
            · obtain ⟨e1, _⟩ := hok b _ z
              obtain ⟨e2, _⟩ := hok' b _ (un.frzs b ob _ z)
              rw [e] at e1; cases e1
              exact e2
  cases hk : K.lookup a with
  | some o =>
    have e := KX a o hk
    rw [ha] at e
    cases e
    exact core (fun _ => none) (fun _ => .inl rfl) (.inr fun H' => .inr ⟨_, vs.toArray, _, hk, rfl, rfl, rfl, by rw [List.size_toArray, lenV]; exact hl, by simpa using rv⟩) (fun b u z => by have z' : (none : Option HO) = some u := z; cases z') (fun b z => absurd rfl z) fun z => absurd rfl z
  | none =>
    refine core (upd (fun _ => none) a (.frz { cls := .type "list", data := .seq vs.toArray } (.lst (ns.map V.int)))) (fun b => ?_) (.inl ⟨{ cls := .type "list", data := .seq vs.toArray }, upd_same⟩) (fun b u z => ?_) (fun b z => ?_) fun _ => hk
    · by_cases hb : b = a
      · subst hb; exact .inr ⟨_, _, upd_same⟩
      · exact .inl (upd_ne hb)
    · by_cases hb : b = a
      · subst hb
        rw [upd_same] at z; cases z
        exact ⟨ha, by rw [List.length_map]; exact hl, vs, _, rv, ha⟩
      · rw [upd_ne hb] at z; cases z
    · by_cases hb : b = a
      · exact hb
      · exact absurd (upd_ne hb) z
theorem walk_G {l : PySem.W.OpenLaw} {n k : Nat} {q : Program} {loose : List Str} {XP : (Str → Option Value) → Heap → Prop} {YP : World → Heap → Prop} {d : DefRec} {K : Params → PySem.W.Frag} {x : Str} {F : FF}
    (hn : l.most = some n) (hn2 : n ≤ sizeLine) (hdf : d.params.defaults = []) (hr : Room k callerA) (hY : ∀ (w : World) (h : Heap), YP w h → (K w.params).In h)
    (hF : ∀ (w : World) (mg : Str → Option Value) (fa : Addr) (h : Heap), (K w.params).In h → h.Ns mainGlobals mg → mg d.name = some (.ref fa) → ∃ (fd : FuncData) (G : Nat → Addr), (∀ (s : Shared) (u : Value), BindsTo s fd ⟨[u], []⟩ [(x, u)]) ∧ ∀ base : Heap, (K w.params).In base → base.Ns mainGlobals mg → FnG l.prog w (K w.params) mg base G k fa fd [x] F)
    (hz : ∀ ns : List Int, ns.length ≤ n → (∀ z ∈ ns, Builtin.Int.intBits z ≤ 1048576) → ∃ h, F [.scr ns] [] = .ok (.bl true) h) : PySem.W.WalkO q loose XP YP l.row.toRowW d [] (fun f vs => PySem.call f vs) := by
  refine Att.attach_callB hn hdf fun w s₀ s₁ mg mb fa o pm cd doc a vs ns G Y ho hd hcd hmg hobj hints hlen hbits hg => ?_
  have KX := hY w _ Y
  obtain ⟨fd, Gc, hb, h⟩ := hF w mg fa _ KX G.T.g hmg
  obtain ⟨hh, e⟩ := hz ns hlen hbits
  exact call_G KX G.T.g G.T.b G.T.builtins G.T.nolimit hg hobj hints (Nat.le_trans hlen hn2) hr h hb e
end Pz

set_option Elab.async false
set_option linter.all false
set_option maxRecDepth 100000
set_option maxHeartbeats 2000001
namespace Pz
open PySem PySem.Spec L2
open AutoSeq1 (wpAny_loadPart')

/-! ### enumerate(tuple) -/
theorem meets_enum_tup (l : Addr) (items : Array Value) (n : Nat) (dct : Option Addr) (sl : Array (Option Value)) : Meets (Builtin.«enumerate.__new__» ⟨[.type "enumerate", .ref l], []⟩) (fun _ R s => s.heap.get? l = some { cls := .type "tuple", dict := dct, data := .seq items n, slots := sl } ∧ R (.ok (.ret (.ref (s.heap.push { cls := .type "tuple_iterator", data := .fields #[.ref l, .int 0 0] }).objs.size))) { s with heap := (s.heap.push { cls := .type "tuple_iterator", data := .fields #[.ref l, .int 0 0] }).push { cls := .type "enumerate", data := .fields #[.none, .bool false, .ref s.heap.objs.size, rawInt 0, .none, .none] } }) :=
  .of_wp fun prog w A R s h => by
    obtain ⟨hp, g, d, tk, os⟩ := s
    obtain ⟨hl, h⟩ := h
    have hsub := sub_enumerate
    have hT : Heap.IsTuple (Shared.heap ⟨hp, g, d, tk, os⟩) l items := ⟨_, hl, rfl, n, rfl⟩
    wp_walk using wpAny_loadPart' hl
    refine wpAny_stack_any fun st => wpAny_pure ?_
    split
    · rename_i c _ _ _ _ _
      cases (c == Value.type "enumerate") <;> (wp_walk using wpAny_loadPart' hl, wpAny_pyIter_tuple hT; exact ⟨_, rfl, h⟩)
    · wp_walk using wpAny_loadPart' hl, wpAny_pyIter_tuple hT
      exact ⟨_, rfl, h⟩
theorem call_enum_tup {prog : Program} {w : World} {A : Around} {E : Value → Shared → Prop} {s : Shared} {l : Addr} {items : Array Value} {Q : Value → Shared → Prop} (hL : s.heap.IsTuple l items)
    (h : ∀ h', IsEnum h' (s.heap.objs.size + 1) s.heap.objs.size 0 .none → h'.IsTupleIter s.heap.objs.size l 0 → h'.objs.size = s.heap.objs.size + 2 → (∀ b o, s.heap.get? b = some o → h'.get? b = some o) → Q (.ref (s.heap.objs.size + 1)) { s with heap := h' }) : wpAny (model prog w) A (call (.type "enumerate") [.ref l]) Q E s := by
  obtain ⟨⟨c, dct, dt, sl⟩, hl, hc, n, hd⟩ := hL
  obtain rfl : c = .type "tuple" := hc
  obtain rfl : dt = .seq items n := hd
  refine callType_new F.called_enumerate (by decide) (F.typeCall_enumerate_1 _) (F.newCall_enumerate_1 _) (fun obj => F.args_object_init_2 obj _) F.entry_enumerate_new (meets_enum_tup l items n dct sl) ⟨hl, ?_⟩
  have hz : (s.heap.push { cls := .type "tuple_iterator", data := .fields #[.ref l, .int 0 0] }).objs.size = s.heap.objs.size + 1 := Heap.size_push ..
  show _ ∧ _
  rw [hz]
  have he : IsEnum ((s.heap.push { cls := .type "tuple_iterator", data := .fields #[.ref l, .int 0 0] }).push { cls := .type "enumerate", data := .fields #[.none, .bool false, .ref s.heap.objs.size, rawInt 0, .none, .none] }) (s.heap.objs.size + 1) s.heap.objs.size 0 .none := by
    have q := Heap.get?_push_size (s.heap.push { cls := .type "tuple_iterator", data := .fields #[.ref l, .int 0 0] }) (o := { cls := .type "enumerate", data := .fields #[.none, .bool false, .ref s.heap.objs.size, rawInt 0, .none, .none] }) rfl
    rw [hz] at q; exact q
  exact ⟨⟨_, he, rfl⟩, h _ he ⟨_, Heap.get?_push_of_some _ (Heap.get?_push_size _ rfl), rfl, rfl⟩ (by rw [Heap.size_push, hz]) fun b o x => Heap.get?_push_of_some _ (Heap.get?_push_of_some _ x)⟩
def IteT (K : PySem.W.Frag) (a : Addr) : It :=
  ⟨fun i H => ∃ (xs : List V) (x : V), SqT K H a xs ∧ xs[i]? = some x, fun i H v H' => ∃ T x, v = .ref T ∧ H T = none ∧ H' = upd H T (.tup [.int (i : Nat), x]) ∧ ∀ xs, SqT K H a xs → xs[i]? = some x, fun i H => ∃ xs : List V, SqT K H a xs ∧ xs.length ≤ i⟩
theorem turn_enumT {P : Program} {w : World} {K : PySem.W.Frag} {elts : List Expr} {kk : Nat} {tpos : Pos} (a e it : Addr) :
    Turn P w K (.Tuple elts kk tpos) (IteT K a) [e, it] e (fun i h => (∃ old, IsEnum h e it ((i : Nat) : Int) old) ∧ h.IsTupleIter it a i ∧ e ≠ it ∧ e ≠ a ∧ a ≠ it) where
  mem := by simp
  obj := fun i h st b hb => by
    obtain ⟨⟨old, he⟩, ⟨o, ho, hc, hd⟩, _⟩ := st
    rcases (show b = e ∨ b = it by simpa using hb) with z | z
    · rw [z]; exact ⟨_, he, fun v q => nomatch q⟩
    · rw [z]; exact ⟨o, ho, fun v q => by rw [hd] at q; cases q⟩
  keep := fun i h h' st k => let ⟨⟨old, he⟩, hi, hne⟩ := st; ⟨⟨old, k e (by simp) _ he⟩, hi.at fun o q => k it (by simp) o q, hne⟩
  item := by
    intro X hP hw hK hc i pins s σ H E I hf st hg
    subst hP hw hK
    obtain ⟨⟨old, he⟩, hit, hne, nea, nai⟩ := st
    obtain ⟨xs, x, hq, hx⟩ := hg
    obtain ⟨its, rv, p, hz⟩ := I.tuple hq
    obtain ⟨u, hu, ru⟩ := rv.get hx
    have hel : e < s.heap.objs.size := Heap.lt_size he
    have hil : it < s.heap.objs.size := by obtain ⟨_, q, _⟩ := hit; exact Heap.lt_size q
    have hlt : i < its.toArray.size := by rw [List.size_toArray]; exact (List.getElem?_eq_some_iff.mp hu).1
    refine wpAny_pyNext_enum_itemD (Draws.tuple (prog := X.prog) (w := X.w) (A := X.A.in1) (show X.A.in1.handled = none from I.ok.hd hc) it a nai its.toArray) he ⟨hit, p⟩ hlt hne (by simp [hne, nea]) fun y h' tk hy ho hit' hT hsz hk => ?_
    obtain rfl : y = u := by
      have q : its.toArray[i]? = some y := hy
      rw [List.getElem?_toArray, hu] at q; exact (Option.some.inj q).symm
    refine ⟨_, rfl, wpAny_letOwnedTupleGo_enum (s := { s with heap := h', toks := tk + 1 }) ho fun h'' he' sb => ?_⟩
    have hT2 : h''.get? s.heap.objs.size = some { cls := .type "tuple", data := .seq #[.int i tk, y] } := (sb.2 _ (Nat.ne_of_gt hel)).trans hT
    have new : ObjOk X.prog X.w (upd H s.heap.objs.size (.tup [.int (i : Nat), x])) h'' s.heap.objs.size (.tup [.int (i : Nat), x]) := ⟨by show 2 ≤ sizeLine; decide, [.int i tk, y], .cons ⟨_, rfl⟩ (.cons ru .nil), ⟨_, hT2, rfl, _, rfl⟩⟩
    have I1 : Inv X pins σ (upd H s.heap.objs.size (.tup [.int (i : Nat), x])) { s with heap := h'', toks := tk + 1 } :=
      I.turnedNew (ch := [e, it]) (fun b ob hb q => (sb.2 b (fun z => hb (by simp [z]))).trans (hk b ob (fun z => hb (by simp [z])) (fun z => hb (by simp [z])) q)) hf (Nat.le_refl _) new
    refine ⟨.ref s.heap.objs.size, _, I1, rfl, ⟨_, x, rfl, I.hok.fresh (Nat.le_refl _), rfl, fun ys hy => by rw [I.tuple_inj hy hq]; exact hx⟩, ⟨⟨y, ?_⟩, hit'.1.at fun o q => (sb.2 it (Ne.symm hne)).trans q, hne, nea, nai⟩, fun b hb => ?_⟩
    · have e1 : ((i + 1 : Nat) : Int) = (i : Int) + 1 := by omega
      rw [e1]; exact he'
    · have hb' : b < s.heap.objs.size := by rcases (show b = e ∨ b = it by simpa using hb) with z | z <;> (rw [z]; assumption)
      rw [upd_ne (Nat.ne_of_lt hb')]
      exact (hf b hb).1
  done := by
    intro X hP hw hK hc i pins s σ H E I hf st hg
    subst hP hw hK
    obtain ⟨⟨old, he⟩, hit, hne, nea, nai⟩ := st
    obtain ⟨xs, hq, hx⟩ := hg
    obtain ⟨its, rv, p, hz⟩ := I.tuple hq
    obtain ⟨f0, f1, f2, f3, f4, f5⟩ := hf it (by simp)
    have hl := rv.length
    have hx2 : its.toArray[i]? = none := by rw [List.getElem?_toArray]; exact List.getElem?_eq_none (by omega)
    have D : Draws X.prog X.w X.A.in1 it [it, a] i (fun _ _ => False) (fun j h => j = i ∧ h.IsTupleIter it a i ∧ h.IsTuple a its.toArray) :=
      { live := fun _ _ st => let ⟨o, ho, _⟩ := st.2.1; ⟨o, ho⟩, frame := fun _ _ _ st hk => ⟨st.1, st.2.1.at fun o e => hk it (by simp) o e, st.2.2.at fun o e => hk a (by simp) o e⟩,
        item := fun j s Q E hj st hQ => absurd st.1 (Nat.ne_of_lt hj), done := fun s Q E st hE => wpAny_nextOf_tuple_end (show X.A.in1.handled = none from I.ok.hd hc) st.2.1 st.2.2 hx2 hE }
    exact wpAny_pyNext_enum_endD D he ⟨rfl, hit, p⟩ fun h' eb => ⟨rfl, I.turned (t' := s.toks) (fun b o hb q => eb b o hb q) f0 f1 f3 f4 f5⟩
  self := fun A i s Q E st h => let ⟨⟨_, he⟩, _⟩ := st; wpAny_pyIter_enum he h
theorem it_enumT {Z : Cz} {ρ : Nat → Addr} {h : Hs} {H : Hp} {p : Addr} {xs : List SV} {vs : List V} (q : SqT Z.K H p vs) (t : RVs Z ρ h.length H xs vs) (R0 : RHp Z ρ h H) : ItOk Z (IteT Z.K p) (xs.mapIdx fun i x => SV.tup [.int (i : Nat), x]) (fun _ => true) ρ h H where
  turn := fun i x ρ2 h2 H2 E R _ hx => by
    rw [List.getElem?_mapIdx, Option.map_eq_some_iff] at hx
    obtain ⟨y, ey, rfl⟩ := hx
    obtain ⟨v, e1, r⟩ := t.get ey
    have q2 : SqT Z.K H2 p vs := SqT.ext (fun a o e k => E.kept R0 e k) q
    refine ⟨⟨vs, v, q2, e1⟩, fun u H' ⟨T, y', e2, hT, e3, hy⟩ => ?_⟩
    subst e2 e3
    have z := hy vs q2
    rw [e1] at z; cases z
    exact ⟨R.lay hT, Gro.lay hT, .tup (SqT.of upd_same) (.cons (.int _) (.cons ((r.ext R0 E).ext' (keep_lay hT) (Nat.le_refl _) fun _ _ => rfl) .nil))⟩
  stop := fun ρ2 h2 H2 E R _ => ⟨vs, SqT.ext (fun a o e k => E.kept R0 e k) q, by rw [List.length_mapIdx]; exact Nat.le_of_eq t.length.symm⟩
def iEnum2 (re : LF) : IF := fun σ h => (re σ h).bnd fun vs h => match vs with
  | [.ref a] => (match h[a]? with
    | some (.lst xs) => .ok (xs.mapIdx fun i x => SV.tup [.int (i : Nat), x], chkL a xs) h
    | _ => .stuck)
  | [.tup xs] => .ok (xs.mapIdx fun i x => SV.tup [.int (i : Nat), x], fun _ => true) h
  | _ => .stuck
theorem pi_enumT {X : Cx} {e : Expr} {ta : TA} {p pos tpos : Pos} {elts : List Expr} {kk : Nat} (hg : Gl X "enumerate") (hm : X.mg "enumerate" = none) (ha : PA X [e] ta) (hs : starEach [e] X.env = [(false, eval e X.env)] := by rfl) :
    PI X (.Tuple elts kk tpos) (.Call (.Name "enumerate" p) [e] [] pos) (fun σ H R => ta σ H fun vs H1 => (∃ a xs, vs = [.ref a] ∧ SqL X.K H1 a xs ∧ R (Ite X.K a) H1) ∨ ∃ a xs, vs = [.ref a] ∧ SqT X.K H1 a xs ∧ R (IteT X.K a) H1) := by
  refine ⟨fun pins s σ H R I h => PyProof.Rows.Call_ (ld_blt I hg hm PyProof.Rows.boot_enumerate (PyProof.Rows.callWith_type1 (thn (ha.run pos pins s σ H _ I h) fun us s1 ⟨vs, H1, I1, r1, q1⟩ => ?_) hs rfl))⟩
  have fr : ∀ b, b = s1.heap.objs.size + 1 ∨ b = s1.heap.objs.size → FpOk X pins H1 b := fun b hb => by
    have hle : s1.heap.objs.size ≤ b := by omega
    exact I1.fpOk hle (I1.hok.fresh hle)
  rcases q1 with ⟨a, xs, rfl, hq, q⟩ | ⟨a, xs, rfl, hq, q⟩
  · cases r1 with | cons r rr => ?_
    cases rr; cases r
    obtain ⟨its, rv, p', hz⟩ := I1.list hq
    refine call_enumerate_list p'.isList fun h' he hit hsz hk => wpAny_pyIter_enum he ⟨s1.heap.objs.size + 1, [s1.heap.objs.size + 1, s1.heap.objs.size], _, _, H1, rfl, I1.kept (t' := s1.toks) hk, turn_enum a (s1.heap.objs.size + 1) s1.heap.objs.size, ⟨⟨.none, he⟩, hit, Nat.succ_ne_self _⟩, fun b hb => fr b (by simpa using hb), q⟩
  · cases r1 with | cons r rr => ?_
    cases rr; cases r
    obtain ⟨its, rv, p', hz⟩ := I1.tuple hq
    have la : a < s1.heap.objs.size := by obtain ⟨_, e, _⟩ := id p'; exact Heap.lt_size e
    refine call_enum_tup p' fun h' he hit hsz hk => wpAny_pyIter_enum he ⟨s1.heap.objs.size + 1, [s1.heap.objs.size + 1, s1.heap.objs.size], _, _, H1, rfl, I1.kept (t' := s1.toks) hk, turn_enumT a (s1.heap.objs.size + 1) s1.heap.objs.size, ⟨⟨.none, he⟩, hit, Nat.succ_ne_self _, Ne.symm (Nat.ne_of_lt (Nat.lt_succ_of_lt la)), Nat.ne_of_lt la⟩, fun b hb => fr b (by simpa using hb), q⟩
section
variable {X : Cx} {G : Nat → Addr} {W : WX} {a : Expr} {re : LF} {pos : Pos}
theorem si_enum2 {p tpos : Pos} {elts : List Expr} {kk : Nat} (hm : X.mg "enumerate" = none) (sl : SA X G W [a] re) (hg : Gl X "enumerate" := by rfl) (hs : starEach [a] X.env = [(false, eval a X.env)] := by rfl) : SI X G W (.Tuple elts kk tpos) (.Call (.Name "enumerate" p) [a] [] pos) (iEnum2 re) :=
  si_pi (pi_enumT hg hm pa_any hs) fun ρ σs h σ H R hE hR hP => sl ρ σs h σ H _ hE hR (hP.fst fun vs h1 ρ1 H1 xs _ E1 R1 v1 p1 => by
    split at p1
    · obtain ⟨x, rfl, r⟩ := rvs1 v1
      cases r with | ref hi => ?_
      split at p1
      · rename_i e0
        obtain ⟨_, vs, f, t⟩ := R1.lst e0
        exact .inl ⟨_, _, rfl, SqL.of f, PostG.ret R1 (fun h0 e1 _ => it_enum (by rw [e1]; exact hi)) p1⟩
      · exact p1.elim
    · obtain ⟨x, rfl, r⟩ := rvs1 v1
      cases r with | tup q t => ?_
      exact .inr ⟨_, _, rfl, q, PostG.ret R1 (fun h0 e0 R0 => it_enumT q (by rw [e0]; exact t) R0) p1⟩
    · exact p1.elim)
end
end Pz
namespace Pz
open PySem PySem.Spec L2

/-! ### repr, also of an empty dict -/
theorem call_repr_d0 {X : Cx} (hu : X.A.units + 200 < cLine) (hg : X.A.guards = some []) : CallR X (.builtin "repr") (fun xs H Q => ∃ a, xs = [.ref a] ∧ H a = some (.dK []) ∧ Q (.str "{}") H) := by
  intro pins s σ H xs us Q I r q
  obtain ⟨a, rfl, ha, q⟩ := q
  obtain ⟨u, rfl, ru⟩ := vals1 r
  obtain rfl : u = Value.ref a := ru
  obtain ⟨_, hs, vs, kv, o, es, ep, ho, hex, hd, hr⟩ := (show ObjOk X.prog X.w H s.heap a (.dK []) from I.hok a _ ha)
  cases kv
  have hes : es.toList = [] := by
    have hp := hr.2.1
    generalize es.toList = l at hp
    cases hp
    rfl
  have rd : Reads s.heap (.ref a) (.dict []) [a] := by
    have q : Reads s.heap (.ref a) (.dict []) (a :: [] ++ []) := .dict ho hex.1 hd (by rw [hes]; exact .nil) (by rw [hes]; exact .nil)
    exact q
  exact repr_of_reads' rd rfl (fun _ hm => by rw [List.mem_singleton] at hm; rw [hm] at hs; simp at hs) hg (by have z : (PyData.dict []).depth ≤ 64 := (by decide); omega) (fun _ _ e => e) (fun h' u tk hk => ⟨.str _, H, I.kept hk, ⟨_, rfl⟩, q⟩) (by show (2 : Nat) ≤ sizeLine; rw [sizeLine_eq]; decide)
def bRepr2 (us : List SV) (h : Hs) : Out SV := match us with
  | [.ref a] => (match h[a]? with
    | some (.dct []) => .ok (.str "{}") h
    | _ => bRepr us h)
  | _ => bRepr us h
theorem fn_repr2 {X : Cx} {G : Nat → Addr} {W : WX} (ok : XOs X W) : FnS X G (.builtin "repr") bRepr2 := .of fun W ρ h H σ us xs Q hR t hP => by
  unfold bRepr2 at hP
  split at hP
  · split at hP
    · rename_i e0
      obtain ⟨x, rfl, r⟩ := rvs1 t
      cases r with | ref hi => ?_
      obtain ⟨_, vs, f, t2⟩ := hR.dct e0
      cases t2
      exact fun pins s σ' ws I rw => call_repr_d0 ok.hu ok.gd pins s σ' H _ ws Q I rw ⟨_, rfl, f, PostG.ret hR (.str _) hP⟩
    · exact fn_repr ok W ρ h H σ _ xs Q hR t hP
  · exact fn_repr ok W ρ h H σ us xs Q hR t hP
end Pz

set_option Elab.async false
set_option linter.all false
set_option maxRecDepth 100000
namespace Pz
open PySem PySem.Spec L2

/-! ### how combinators run: one row a step -/
section
variable {σ σ1 σ2 σ' : SEnv} {h h1 h2 h3 h' : Hs} {ra rb rc : EF} {re rl : LF} {u v w : SV} {vs us : List SV} {b : Bool} {ta tb : SEnv → Hs → Out Bool} {r1 r2 : SF} {g : GF} {i n : Nat} {F : FF}
theorem e_var (e : σ[i]? = some (some v)) : rVar i σ h = .ok v h := by unfold rVar; rw [e]
theorem e_B {f : SV → SV → Hs → Out SV} (ea : ra σ h = .ok u h1) (eb : rb σ h1 = .ok v h2) : rB f ra rb σ h = f u v h2 := by unfold rB; rw [ea, Out.bnd_ok, eb, Out.bnd_ok]
theorem e_nil : lNil σ h = .ok [] h := rfl
theorem e_cons (ea : ra σ h = .ok v h1) (el : rl σ h1 = .ok vs h2) : lCons ra rl σ h = .ok (v :: vs) h2 := by unfold lCons; rw [ea, Out.bnd_ok, el, Out.bnd_ok]
theorem e_F {f : List SV → Hs → Out SV} (ea : re σ h = .ok us h1) : rF f re σ h = f us h1 := by unfold rF; rw [ea, Out.bnd_ok]
theorem e_call {dv : List SV} (ea : re σ h = .ok us h1) (hl : us.length + dv.length = n) : rCall F n dv re σ h = F (us ++ dv) h1 := by unfold rCall; rw [ea, Out.bnd_ok, if_pos hl]
theorem e_call1 (ea : ra σ h = .ok v h1) : rCall F 1 [] (lCons ra lNil) σ h = F [v] h1 := e_call (e_cons ea e_nil) rfl
theorem e_call2 (ea : ra σ h = .ok u h1) (eb : rb σ h1 = .ok v h2) : rCall F 2 [] (lCons ra (lCons rb lNil)) σ h = F [u, v] h2 := e_call (e_cons ea (e_cons eb e_nil)) rfl
theorem e_tup (ea : re σ h = .ok us h1) (hl : us.length ≤ 1000000) : rTup re σ h = .ok (.tup us) h1 := by unfold rTup; rw [ea, Out.bnd_ok, if_pos hl]
theorem e_lst (ea : re σ h = .ok us h1) (hl : us.length ≤ 1000000) : rLst re σ h = .ok (.ref h1.length) (h1 ++ [.lst us]) := by unfold rLst; rw [ea, Out.bnd_ok, if_pos hl]
theorem e_T (ea : ra σ h = .ok v h1) (ht : truS v h1 = some b) : rT ra σ h = .ok b h1 := by unfold rT; rw [ea, Out.bnd_ok, ht]
theorem e_TB (ea : ra σ h = .ok (.bl b) h1) : rTB ra σ h = .ok b h1 := by unfold rTB; rw [ea, Out.bnd_ok]
theorem e_andT1 (ea : ta σ h = .ok true h1) : rAndT ta tb σ h = tb σ h1 := by unfold rAndT; rw [ea, Out.bnd_ok, if_pos rfl]
theorem e_andT0 (ea : ta σ h = .ok false h1) : rAndT ta tb σ h = .ok false h1 := by unfold rAndT; rw [ea, Out.bnd_ok, if_neg Bool.false_ne_true]
theorem e_orT1 (ea : ta σ h = .ok true h1) : rOrT ta tb σ h = .ok true h1 := by unfold rOrT; rw [ea, Out.bnd_ok, if_pos rfl]
theorem e_orT0 (ea : ta σ h = .ok false h1) : rOrT ta tb σ h = tb σ h1 := by unfold rOrT; rw [ea, Out.bnd_ok, if_neg Bool.false_ne_true]
theorem e_notT (ea : ta σ h = .ok b h1) : rNotT ta σ h = .ok (!b) h1 := by unfold rNotT; rw [ea, Out.bnd_ok]
theorem e_and1 (ea : ra σ h = .ok (.bl true) h1) : rAnd ra rb σ h = rb σ h1 := by unfold rAnd rBl; rw [ea, Out.bnd_ok]; rfl
theorem e_and0 (ea : ra σ h = .ok (.bl false) h1) : rAnd ra rb σ h = .ok (.bl false) h1 := by unfold rAnd rBl; rw [ea, Out.bnd_ok]; rfl
theorem e_not (ea : ra σ h = .ok (.bl b) h1) : rNot ra σ h = .ok (.bl (!b)) h1 := by unfold rNot rBl; rw [ea, Out.bnd_ok]
theorem e_if1 (ea : ta σ h = .ok true h1) : rIfE ta ra rb σ h = ra σ h1 := by unfold rIfE; rw [ea, Out.bnd_ok, if_pos rfl]
theorem e_if0 (ea : ta σ h = .ok false h1) : rIfE ta ra rb σ h = rb σ h1 := by unfold rIfE; rw [ea, Out.bnd_ok, if_neg Bool.false_ne_true]
theorem e_BM {T : String} {f : SV → List SV → Hs → Out SV} (ea : ra σ h = .ok u h1) (ht : isTy T u h1 = true) (el : re σ h1 = .ok us h2) : rBM T f ra re σ h = f u us h2 := by unfold rBM; rw [ea, Out.bnd_ok, if_pos ht, el, Out.bnd_ok]
theorem e_BM0 {T : String} {f : SV → List SV → Hs → Out SV} (ea : ra σ h = .ok u h1) (ht : isTy T u h1 = true) : rBM0 T f ra σ h = f u [] h1 := by unfold rBM0; rw [ea, Out.bnd_ok, if_pos ht]
theorem e_sl {pl ph : PF} {lo hi : Option Int} (ea : ra σ h = .ok u h1) (el : pl σ h1 = .ok lo h2) (eh : ph σ h2 = .ok hi h3) : rSl ra pl ph σ h = oSl u lo hi h3 := by unfold rSl; rw [ea, Out.bnd_ok, el, Out.bnd_ok, eh, Out.bnd_ok]
theorem e_pN : pNone σ h = .ok none h := rfl
theorem e_pS {k : Int} (ea : ra σ h = .ok (.int k) h1) : pSome ra σ h = .ok (some k) h1 := by unfold pSome; rw [ea, Out.bnd_ok]
/-! statements -/
theorem e_seq (e1 : r1 σ h = .nx σ1 h1) : sSeq r1 r2 σ h = r2 σ1 h1 := by unfold sSeq; rw [e1]; rfl
theorem e_seqR (e1 : r1 σ h = .rt v h1) : sSeq r1 r2 σ h = .rt v h1 := by unfold sSeq; rw [e1]; rfl
theorem e_asg (ea : ra σ h = .ok v h1) (eg : g v σ = some σ') : sAsg ra g σ h = .nx σ' h1 := by unfold sAsg; rw [ea, Out.st_ok, eg]
theorem e_asgN (ea : ra σ h = .ok v h1) : sAsg ra (gNm i) σ h = .nx (σ.set i (some v)) h1 := e_asg ea rfl
theorem e_sif1 (ea : ta σ h = .ok true h1) : sIf ta r1 r2 σ h = r1 σ h1 := by unfold sIf; rw [ea, Out.st_ok, if_pos rfl]
theorem e_sif0 (ea : ta σ h = .ok false h1) : sIf ta r1 r2 σ h = r2 σ h1 := by unfold sIf; rw [ea, Out.st_ok, if_neg Bool.false_ne_true]
theorem e_ret (ea : ra σ h = .ok v h1) : sRet ra σ h = .rt v h1 := by unfold sRet; rw [ea, Out.st_ok]
theorem e_expr (ea : ra σ h = .ok v h1) : sExpr ra σ h = .nx σ h1 := by unfold sExpr; rw [ea, Out.st_ok]
theorem e_setIx {ro ri rv : EF} (ev : rv σ h = .ok v h1) (eo : ro σ h1 = .ok u h2) (ei : ri σ h2 = .ok w h3) (e : oSetIx u w v h3 = some h') : sSetIx ro ri rv σ h = .nx σ h' := by unfold sSetIx; rw [ev, Out.st_ok, eo, Out.st_ok, ei, Out.st_ok, e]
theorem e_for {ri : IF} {xs : List SV} {chk : Hs → Bool} (ei : ri σ h = .ok (xs, chk) h1) : sFor ri g r1 σ h = forGo σ h1 g r1 chk xs σ h1 := by unfold sFor; rw [ei, Out.st_ok]
/-! defs -/
theorem gcV_same {m : Nat} (e : h'.length = h.length) : gcV h m h' = h' := by
  unfold gcV
  split
  · rw [← e, List.take_length]
  · rfl
theorem gcV_up {m : Nat} (e : h.length < m) : gcV h m h' = h' := by
  unfold gcV
  rw [if_neg fun z => absurd z.1 (by omega)]
theorem gcV_back {m : Nat} (e : h'.take h.length = h) (hm : m ≤ h.length) : gcV h m h' = h := by
  unfold gcV
  rw [if_pos ⟨hm, .inl e⟩, e]
theorem f_rt {body : SF} (h0 : SV.mxs vs ≠ 0) (e : body (startS n vs) h = .rt v h') : mkF n body vs h = .ok v (gcV h v.mx h') := by
  unfold mkF
  rw [if_neg h0, e]; rfl
/-- arguments and answer without objects: the heap stays -/
theorem f_pure {body : SF} (h0 : SV.mxs vs = 0) (hv : v.mx = 0) (e : body (startS n vs) [] = .rt v h') : mkF n body vs h = .ok v h := by
  unfold mkF
  rw [if_pos h0, e]
  have q : finF [] (.rt v h') = .ok v [] := by
    show Out.ok v (gcV [] v.mx h') = _
    rw [gcV_back (by simp) (by simp [hv])]
  rw [q]
/-- the heap's first objects stay: they are what is left behind the call -/
theorem f_back {body : SF} (e : body (startS n vs) h = .rt v h') (e0 : SV.mxs vs = 0 → body (startS n vs) [] = .rt v h2) (hm : v.mx = 0) (ht : h'.take h.length = h) : mkF n body vs h = .ok v h := by
  by_cases h0 : SV.mxs vs = 0
  · exact f_pure h0 hm (e0 h0)
  · rw [f_rt h0 e, gcV_back ht (by omega)]
/-- what one run of a pure call tells of all heaps -/
theorem f_any {body : SF} (h0 : SV.mxs vs = 0) (e : mkF n body vs [] = .ok v []) : mkF n body vs h = .ok v h := by
  unfold mkF at e ⊢
  rw [if_pos h0] at e ⊢
  cases hf : finF [] (body (startS n vs) []) with
  | ok u k =>
    rw [hf] at e
    cases k with
    | nil => cases e; rfl
    | cons o k => dsimp only at e; cases e
  | exc c fs k =>
    rw [hf] at e
    cases k with
    | nil => cases e
    | cons o k => dsimp only at e; cases e
  | stuck => rw [hf] at e; dsimp only at e; cases e
/-! loops -/
theorem for_ind {σ0 : SEnv} {h0 : Hs} {chk : Hs → Bool} (P : List SV → SEnv → Hs → Prop) (N : SEnv → Hs → Prop) (R : SV → Hs → Prop)
    (step : ∀ x xs σ h, P (x :: xs) σ h → chk h = true ∧ ∃ σ1, g x σ = some σ1 ∧ ((∃ σ2 h2, (r1 σ1 h = .nx σ2 h2 ∨ r1 σ1 h = .ct σ2 h2) ∧ P xs (gcS σ0 h0 σ2 h2).1 (gcS σ0 h0 σ2 h2).2) ∨ (∃ σ2 h2, r1 σ1 h = .bk σ2 h2 ∧ N σ2 h2) ∨ ∃ v h2, r1 σ1 h = .rt v h2 ∧ R v h2))
    (stop : ∀ σ h, P [] σ h → chk h = true ∧ N σ h) : ∀ (xs : List SV) (σ : SEnv) (h : Hs), P xs σ h → (∃ σ' h', forGo σ0 h0 g r1 chk xs σ h = .nx σ' h' ∧ N σ' h') ∨ ∃ v h', forGo σ0 h0 g r1 chk xs σ h = .rt v h' ∧ R v h'
  | [], σ, h, p => by
    obtain ⟨c, q⟩ := stop σ h p
    exact .inl ⟨σ, h, by unfold forGo; rw [if_pos c], q⟩
  | x :: xs, σ, h, p => by
    obtain ⟨c, σ1, e1, k⟩ := step x xs σ h p
    unfold forGo
    rw [if_pos c, e1]
    rcases k with ⟨σ2, h2, e | e, p2⟩ | ⟨σ2, h2, e, q⟩ | ⟨v, h2, e, q⟩
    · simp only [e]; exact for_ind P N R step stop xs _ _ p2
    · simp only [e]; exact for_ind P N R step stop xs _ _ p2
    · simp only [e]; exact .inl ⟨_, _, rfl, q⟩
    · simp only [e]; exact .inr ⟨_, _, rfl, q⟩
theorem lc_map {tt : SEnv → Hs → Out Bool} {te : EF} {chk : Hs → Bool} {σw : SEnv} {f : SV → SV} : ∀ (xs : List SV) (acc : List SV), (chk h = true) → (acc.length + xs.length < 1000000) → (∀ x ∈ xs, ∃ σ2 h3, g x σw = some σ2 ∧ tt σ2 h = .ok true h ∧ te σ2 h = .ok (f x) h3 ∧ gcV h (f x).mx h3 = h) → lcGo g tt te chk σw xs h acc = .ok (acc ++ xs.map f) h
  | [], acc, c, _, _ => by unfold lcGo; rw [if_pos c]; simp
  | x :: xs, acc, c, hl, k => by
    obtain ⟨σ2, h3, e1, e2, e3, e4⟩ := k x (by simp)
    unfold lcGo
    simp only [List.length_cons] at hl
    rw [if_pos ⟨c, by omega⟩, e1]
    simp only [e2, e3]
    rw [e4, lc_map xs (acc ++ [f x]) c (by simp; omega) fun y hy => k y (by simp [hy])]
    simp
theorem gcS_back {σ0 : SEnv} {h0 : Hs} (e : h.take h0.length = h0) : gcS σ0 h0 σ h = (cutE h0.length σ0 σ, h0) := by
  unfold gcS
  rw [if_pos (.inl e), e]
end
end Pz

set_option Elab.async false
set_option linter.all false
set_option maxRecDepth 100000
set_option maxHeartbeats 4000000
namespace Kx
open PySem PySem.Spec L2 Pz

def top (i : Nat) : Stmt := PySem.Challenge.pw_surestreams_k01_words_columns_rows.main.body.getD i (.Pass ⟨0, 0, 0, 0⟩)
def v_KINDS : SV := .tup [.str "word", .str "number"]
def v_MOST_COLUMNS : SV := .int 6
def xf_value : List Nat := [1]
def exmT : Nat → TyS → Option Bool
  | 1, .c 1 => some true
  | 1, .c 0 => some true
  | _, _ => none
abbrev s_is_word : Stmt := top 6
abbrev N_is_word : List Str := ["value"]
def r_is_word_0 : SF := (sRet (rAnd (rF (bIsi tB) (lCons (rVar 0) (lCons (rC (.ty "str")) lNil))) (rAnd (rBM0 "str" (mStrB Txt.isascii) (rVar 0)) (rAnd (rBM0 "str" (mStrB Txt.isalpha) (rVar 0)) (rBM0 "str" (mStrB Txt.islower) (rVar 0))))))
def b_is_word : SF := r_is_word_0
def F_is_word : FF := mkF 1 b_is_word
abbrev s_is_number : Stmt := top 7
abbrev N_is_number : List Str := ["value"]
def r_is_number_0 : SF := (sRet (rAnd (rF (bIsi tB) (lCons (rVar 0) (lCons (rC (.ty "int")) lNil))) (rAnd (rNot (rF (bIsi tB) (lCons (rVar 0) (lCons (rC (.ty "bool")) lNil)))) (rB oGe (rVar 0) (rC (.int 0))))))
def b_is_number : SF := r_is_number_0
def F_is_number : FF := mkF 1 b_is_number
abbrev s_is_column : Stmt := top 8
abbrev N_is_column : List Str := ["value", "name", "kind"]
def r_is_column_0_a_0 : SF := (sRet (rC (.bl false)))
def r_is_column_0 : SF := (sIf (rOrT (rNotT (rT (rF (bIsi tB) (lCons (rVar 0) (lCons (rC (.ty "tuple")) lNil))))) (rTB (rB oNe (rF bLen2 (lCons (rVar 0) lNil)) (rC (.int 2))))) r_is_column_0_a_0 sNil)
def r_is_column_1 : SF := (sAsg (rVar 0) (gTp 2 (gsC (gNm 1) (gsC (gNm 2) gsN))))
def r_is_column_2 : SF := (sRet (rAnd (rCall F_is_word 1 [] (lCons (rVar 1) lNil)) (rAnd (rCall F_is_word 1 [] (lCons (rVar 2) lNil)) (rB oIn2 (rVar 2) (rC v_KINDS)))))
def b_is_column : SF := (sSeq r_is_column_0 (sSeq r_is_column_1 r_is_column_2))
def F_is_column : FF := mkF 3 b_is_column
abbrev s_is_columns : Stmt := top 9
abbrev N_is_columns : List Str := ["value", "pair", "name", "_"]
def r_is_columns_0_a_0 : SF := (sRet (rC (.bl false)))
def r_is_columns_0 : SF := (sIf (rOrT (rNotT (rT (rF (bIsi tB) (lCons (rVar 0) (lCons (rC (.ty "tuple")) lNil))))) (rNotT (rTB (rChain oLe oLe (rC (.int 1)) (rF bLen2 (lCons (rVar 0) lNil)) (rC v_MOST_COLUMNS))))) r_is_columns_0_a_0 sNil)
def r_is_columns_1_a_0 : SF := (sRet (rC (.bl false)))
def r_is_columns_1 : SF := (sIf (rNotT (rT (rF bAll (lCons (rLc [1] (iSeq (rVar 0)) (gNm 1) tYesS (rCall F_is_column 1 [] (lCons (rVar 1) lNil))) lNil)))) r_is_columns_1_a_0 sNil)
def r_is_columns_2 : SF := (sRet (rB oEq (rF bLen2 (lCons (rSc [2, 3] (iSeq (rVar 0)) (gTp 2 (gsC (gNm 2) (gsC (gNm 3) gsN))) tYesS (rVar 2)) lNil)) (rF bLen2 (lCons (rVar 0) lNil))))
def b_is_columns : SF := (sSeq r_is_columns_0 (sSeq r_is_columns_1 r_is_columns_2))
def F_is_columns : FF := mkF 4 b_is_columns
abbrev s_is_of_kind : Stmt := top 10
abbrev N_is_of_kind : List Str := ["kind", "value"]
def r_is_of_kind_0 : SF := (sRet (rIfE (rTB (rB oEq (rVar 0) (rC (.str "number")))) (rCall F_is_number 1 [] (lCons (rVar 1) lNil)) (rCall F_is_word 1 [] (lCons (rVar 1) lNil))))
def b_is_of_kind : SF := r_is_of_kind_0
def F_is_of_kind : FF := mkF 2 b_is_of_kind
abbrev s_fits : Stmt := top 11
abbrev N_fits : List Str := ["columns", "value", "part", "_", "kind"]
def r_fits_0_a_0 : SF := (sRet (rC (.bl false)))
def r_fits_0 : SF := (sIf (rOrT (rNotT (rT (rF (bIsi tB) (lCons (rVar 1) (lCons (rC (.ty "tuple")) lNil))))) (rTB (rB oNe (rF bLen2 (lCons (rVar 1) lNil)) (rF bLen2 (lCons (rVar 0) lNil))))) r_fits_0_a_0 sNil)
def r_fits_1 : SF := (sRet (rF bAll (lCons (rLc [2, 3, 4] (iZip (lCons (rVar 0) (lCons (rVar 1) lNil))) (gTp 2 (gsC (gTp 2 (gsC (gNm 3) (gsC (gNm 4) gsN))) (gsC (gNm 2) gsN))) tYesS (rCall F_is_of_kind 2 [] (lCons (rVar 4) (lCons (rVar 2) lNil)))) lNil)))
def b_fits : SF := (sSeq r_fits_0 r_fits_1)
def F_fits : FF := mkF 5 b_fits
abbrev s_is_row : Stmt := top 12
abbrev N_is_row : List Str := ["columns", "value"]
def r_is_row_0_a_0 : SF := (sRaise 1 "value" (lCons (rVar 0) lNil))
def r_is_row_0 : SF := (sIf (rNotT (rT (rCall F_is_columns 1 [] (lCons (rVar 0) lNil)))) r_is_row_0_a_0 sNil)
def r_is_row_1 : SF := (sRet (rCall F_fits 2 [] (lCons (rVar 0) (lCons (rVar 1) lNil))))
def b_is_row : SF := (sSeq r_is_row_0 r_is_row_1)
def F_is_row : FF := mkF 2 b_is_row
abbrev s__law_pool : Stmt := top 14
abbrev N__law_pool : List Str := ["_law_script", "_law_k", "_law_cell", "_law_heavy", "_law_blend", "_law_seed"]
def r__law_pool_0 : SF := (sAsg (rC (.int 0)) (gNm 2))
def r__law_pool_1_a_0 : SF := (sAsg (rB oIx (rVar 0) (rVar 1)) (gNm 2))
def r__law_pool_1 : SF := (sIf (rTB (rB oLt (rVar 1) (rF bLen2 (lCons (rVar 0) lNil)))) r__law_pool_1_a_0 sNil)
def r__law_pool_2 : SF := (sAsg (rF bAbs (lCons (rVar 2) lNil)) (gNm 3))
def r__law_pool_3 : SF := (sAsg (rB oMod (rB oMul (rB oAdd (rB oMod (rVar 2) (rC (.int 2147483629))) (rB oMul (rC (.int 104729)) (rB oAdd (rVar 1) (rC (.int 1))))) (rB oAdd (rVar 1) (rC (.int 7)))) (rC (.int 2147483629))) (gNm 4))
def r__law_pool_4 : SF := (sAsg (rB oMod (rB oMul (rB oMod (rB oMul (rVar 4) (rVar 4)) (rC (.int 2147483629))) (rC (.int 48271))) (rC (.int 2147483647))) (gNm 5))
def r__law_pool_5 : SF := (sRet (rLst (lCons (rB oMul (rVar 3) (rF bInt (lCons (rB oGe (rVar 3) (rB oPow (rC (.int 10)) (rC (.int 18)))) lNil))) (lCons (rVar 5) lNil))))
def b__law_pool : SF := (sSeq r__law_pool_0 (sSeq r__law_pool_1 (sSeq r__law_pool_2 (sSeq r__law_pool_3 (sSeq r__law_pool_4 r__law_pool_5)))))
def F__law_pool : FF := mkF 6 b__law_pool
abbrev s__law_take : Stmt := top 15
abbrev N__law_take : List Str := ["_law_pool_here", "_law_wide", "_law_result"]
def r__law_take_0_a_0 : SF := (sAsg (rB oMod (rB oIx (rVar 0) (rC (.int 0))) (rVar 1)) (gNm 2))
def r__law_take_0_a_1 : SF := (sSetIx (rVar 0) (rC (.int 0)) (rB oDiv (rB oIx (rVar 0) (rC (.int 0))) (rVar 1)))
def r__law_take_0_a_2 : SF := (sRet (rVar 2))
def r__law_take_0 : SF := (sIf (rTB (rB oGt (rB oIx (rVar 0) (rC (.int 0))) (rC (.int 0)))) (sSeq r__law_take_0_a_0 (sSeq r__law_take_0_a_1 r__law_take_0_a_2)) sNil)
def r__law_take_1 : SF := (sSetIx (rVar 0) (rC (.int 1)) (rB oMod (rB oAdd (rB oMul (rB oIx (rVar 0) (rC (.int 1))) (rC (.int 48271))) (rC (.int 12345))) (rC (.int 2147483647))))
def r__law_take_2 : SF := (sRet (rB oMod (rB oDiv (rB oMod (rB oMul (rB oIx (rVar 0) (rC (.int 1))) (rB oIx (rVar 0) (rC (.int 1)))) (rC (.int 2147483629))) (rC (.int 64))) (rVar 1)))
def b__law_take : SF := (sSeq r__law_take_0 (sSeq r__law_take_1 r__law_take_2))
def F__law_take : FF := mkF 3 b__law_take
abbrev s__law_is_word : Stmt := top 16
abbrev N__law_is_word : List Str := ["_law_value", "_law_sign"]
def r__law_is_word_0_a_0 : SF := (sRet (rC (.bl false)))
def r__law_is_word_0 : SF := (sIf (rOrT (rNotT (rT (rF (bIsi tB) (lCons (rVar 0) (lCons (rC (.ty "str")) lNil))))) (rTB (rB oEq (rVar 0) (rC (.str ""))))) r__law_is_word_0_a_0 sNil)
def r__law_is_word_1 : SF := (sRet (rB oEq (rLc [1] (iSeq (rVar 0)) (gNm 1) (rTB (rB oNotIn2 (rVar 1) (rC (.str "abcdefghijklmnopqrstuvwxyz")))) (rVar 1)) (rLst lNil)))
def b__law_is_word : SF := (sSeq r__law_is_word_0 r__law_is_word_1)
def F__law_is_word : FF := mkF 2 b__law_is_word
abbrev s__law_is_number : Stmt := top 17
abbrev N__law_is_number : List Str := ["_law_value"]
def r__law_is_number_0 : SF := (sRet (rAnd (rF (bIsi tB) (lCons (rVar 0) (lCons (rC (.ty "int")) lNil))) (rAnd (rNot (rF (bIsi tB) (lCons (rVar 0) (lCons (rC (.ty "bool")) lNil)))) (rB oGe (rVar 0) (rC (.int 0))))))
def b__law_is_number : SF := r__law_is_number_0
def F__law_is_number : FF := mkF 1 b__law_is_number
abbrev s__law_due : Stmt := top 18
abbrev N__law_due : List Str := ["_law_value", "_law_names", "_law_one"]
def r__law_due_0_a_0 : SF := (sRet (rC (.bl false)))
def r__law_due_0 : SF := (sIf (rOrT (rNotT (rT (rF (bIsi tB) (lCons (rVar 0) (lCons (rC (.ty "tuple")) lNil))))) (rTB (rB oNotIn2 (rF bLen2 (lCons (rVar 0) lNil)) (rF bRng (lCons (rC (.int 1)) (lCons (rC (.int 7)) lNil)))))) r__law_due_0_a_0 sNil)
def r__law_due_1 : SF := (sAsg (rLst lNil) (gNm 1))
def r__law_due_2_a_0_a_0 : SF := (sRet (rC (.bl false)))
def r__law_due_2_a_0 : SF := (sIf (rOrT (rNotT (rT (rF (bIsi tB) (lCons (rVar 2) (lCons (rC (.ty "tuple")) lNil))))) (rOrT (rTB (rB oNe (rF bLen2 (lCons (rVar 2) lNil)) (rC (.int 2)))) (rOrT (rNotT (rT (rCall F__law_is_word 1 [] (lCons (rB oIx (rVar 2) (rC (.int 0))) lNil)))) (rTB (rB oIn2 (rB oIx (rVar 2) (rC (.int 0))) (rVar 1)))))) r__law_due_2_a_0_a_0 sNil)
def r__law_due_2_a_1_a_0 : SF := (sRet (rC (.bl false)))
def r__law_due_2_a_1 : SF := (sIf (rOrT (rNotT (rT (rF (bIsi tB) (lCons (rB oIx (rVar 2) (rC (.int 1))) (lCons (rC (.ty "str")) lNil))))) (rTB (rB oNotIn2 (rB oIx (rVar 2) (rC (.int 1))) (rLst (lCons (rC (.str "word")) (lCons (rC (.str "number")) lNil)))))) r__law_due_2_a_1_a_0 sNil)
def r__law_due_2_a_2 : SF := (sExpr (rBM "list" mAppend (rVar 1) (lCons (rB oIx (rVar 2) (rC (.int 0))) lNil)))
def r__law_due_2 : SF := (sFor (iSeq (rVar 0)) (gNm 2) (sSeq r__law_due_2_a_0 (sSeq r__law_due_2_a_1 r__law_due_2_a_2)))
def r__law_due_3 : SF := (sRet (rC (.bl true)))
def b__law_due : SF := (sSeq r__law_due_0 (sSeq r__law_due_1 (sSeq r__law_due_2 r__law_due_3)))
def F__law_due : FF := mkF 3 b__law_due
abbrev s__law_row_due : Stmt := top 19
abbrev N__law_row_due : List Str := ["_law_heads", "_law_row", "_law_at", "_law_head"]
def r__law_row_due_0_a_0 : SF := (sRet (rC (.bl false)))
def r__law_row_due_0 : SF := (sIf (rOrT (rNotT (rT (rF (bIsi tB) (lCons (rVar 1) (lCons (rC (.ty "tuple")) lNil))))) (rTB (rB oNe (rF bLen2 (lCons (rVar 1) lNil)) (rF bLen2 (lCons (rVar 0) lNil))))) r__law_row_due_0_a_0 sNil)
def r__law_row_due_1_a_0_a_0 : SF := (sRet (rC (.bl false)))
def r__law_row_due_1_a_0 : SF := (sIf (rNotT (rT (rB oIx (rLst (lCons (rCall F__law_is_word 1 [] (lCons (rB oIx (rVar 1) (rVar 2)) lNil)) (lCons (rCall F__law_is_number 1 [] (lCons (rB oIx (rVar 1) (rVar 2)) lNil)) lNil))) (rF bInt (lCons (rB oEq (rB oIx (rVar 3) (rC (.int 1))) (rC (.str "number"))) lNil))))) r__law_row_due_1_a_0_a_0 sNil)
def r__law_row_due_1 : SF := (sFor (iEnum2 (lCons (rVar 0) lNil)) (gTp 2 (gsC (gNm 2) (gsC (gNm 3) gsN))) r__law_row_due_1_a_0)
def r__law_row_due_2 : SF := (sRet (rC (.bl true)))
def b__law_row_due : SF := (sSeq r__law_row_due_0 (sSeq r__law_row_due_1 r__law_row_due_2))
def F__law_row_due : FF := mkF 4 b__law_row_due
abbrev s__law_heard : Stmt := top 20
abbrev N__law_heard : List Str := ["_law_value", "e"]
def r__law_heard_0 : SF := (sTry exmT (sExpr (rCall F_is_row 2 [] (lCons (rVar 0) (lCons (rC .non) lNil)))) ((.c 1, (some 1), (sRet (rF bRepr2 (lCons (rXf xf_value "value" (rVar 1)) lNil)))) :: (.c 0, none, (sRet (rC (.str "odd")))) :: []))
def r__law_heard_1 : SF := (sRet (rC (.str "none")))
def b__law_heard : SF := (sSeq r__law_heard_0 r__law_heard_1)
def F__law_heard : FF := mkF 2 b__law_heard
abbrev s_law : Stmt := top 21
abbrev N_law : List Str := ["_law_script", "_law_words", "_law_values", "_law_k", "_law_pool_here", "_law_value", "_law_heads", "_law_at", "_law_odd", "_law_bent", "_law_some", "_law_turn", "_law_row", "_law_head"]
def r_law_0 : SF := (sAsg (rLst (lCons (rC (.str "a")) (lCons (rC (.str "abc")) (lCons (rC (.str "zzzzzzzzzzzz")) (lCons (rC (.str "")) (lCons (rC (.str "A")) (lCons (rC (.str "a1")) (lCons (rC (.str "a b")) (lCons (rC (.str "\na")) (lCons (rC (.str "a\n")) (lCons (rC (.str "word")) (lCons (rC .non) (lCons (rC (.int 5)) (lCons (rC (.bl true)) lNil)))))))))))))) (gNm 1))
def r_law_1 : SF := (sAsg (rB oAdd (rVar 1) (rLst (lCons (rTup (lCons (rC (.str "a")) lNil)) (lCons (rLst (lCons (rC (.str "a")) lNil)) lNil)))) (gNm 1))
def r_law_2 : SF := (sAsg (rLst (lCons (rC (.int 0)) (lCons (rC (.int 5)) (lCons (rB oPow (rC (.int 10)) (rC (.int 40))) (lCons (rU oNeg (rC (.int 1))) (lCons (rC (.bl true)) (lCons (rC (.bl false)) (lCons (rC .non) (lCons (rC (.str "a")) (lCons (rC (.str "abc")) (lCons (rC (.str "")) (lCons (rC (.str "A")) (lCons (rTup (lCons (rC (.int 1)) lNil)) (lCons (rLst (lCons (rC (.int 1)) lNil)) (lCons (rC (.str "5")) (lCons (rU oNeg (rB oPow (rC (.int 10)) (rC (.int 30)))) lNil)))))))))))))))) (gNm 2))
def r_law_3_a_0 : SF := (sAsg (rCall F__law_pool 2 [] (lCons (rVar 0) (lCons (rVar 3) lNil))) (gNm 4))
def r_law_3_a_1_a_0_a_0 : SF := (sRet (rC (.bl false)))
def r_law_3_a_1_a_0 : SF := (sIf (rTB (rB oNe (rF bRepr2 (lCons (rCall F_is_word 1 [] (lCons (rVar 5) lNil)) lNil)) (rF bRepr2 (lCons (rCall F__law_is_word 1 [] (lCons (rVar 5) lNil)) lNil)))) r_law_3_a_1_a_0_a_0 sNil)
def r_law_3_a_1 : SF := (sFor (iSeq (rVar 1)) (gNm 5) r_law_3_a_1_a_0)
def r_law_3_a_2 : SF := (sAsg (rLst lNil) (gNm 6))
def r_law_3_a_3_a_0 : SF := (sExpr (rBM "list" mAppend (rVar 6) (lCons (rTup (lCons (rB oMul (rB oIx (rC (.str "abcdefghij")) (rVar 7)) (rB oAdd (rC (.int 1)) (rCall F__law_take 2 [] (lCons (rVar 4) (lCons (rC (.int 3)) lNil))))) (lCons (rB oIx (rLst (lCons (rC (.str "word")) (lCons (rC (.str "number")) lNil))) (rCall F__law_take 2 [] (lCons (rVar 4) (lCons (rC (.int 2)) lNil)))) lNil))) lNil)))
def r_law_3_a_3 : SF := (sFor (iRng1 (lCons (rB oAdd (rC (.int 1)) (rCall F__law_take 2 [] (lCons (rVar 4) (lCons (rC (.int 7)) lNil)))) lNil)) (gNm 7) r_law_3_a_3_a_0)
def r_law_3_a_4 : SF := (sAsg (rCall F__law_take 2 [] (lCons (rVar 4) (lCons (rF bLen2 (lCons (rVar 6) lNil)) lNil))) (gNm 7))
def r_law_3_a_5 : SF := (sAsg (rLst (lCons (rTup (lCons (rC (.str "a")) (lCons (rC (.str "word")) lNil))) (lCons (rTup (lCons (rC (.str "b")) (lCons (rC (.str "Word")) lNil))) (lCons (rTup (lCons (rC (.str "b")) lNil)) (lCons (rTup (lCons (rC (.str "b")) (lCons (rC (.str "word")) (lCons (rC (.int 1)) lNil)))) (lCons (rLst (lCons (rC (.str "b")) (lCons (rC (.str "word")) lNil))) (lCons (rC .non) lNil))))))) (gNm 8))
def r_law_3_a_6 : SF := (sAsg (rB oAdd (rVar 8) (rLst (lCons (rTup (lCons (rC (.str "")) (lCons (rC (.str "word")) lNil))) (lCons (rTup (lCons (rC (.str "b")) (lCons (rC .non) lNil))) lNil)))) (gNm 8))
def r_law_3_a_7 : SF := (sAsg (rB oAdd (rB oAdd (rSl (rVar 6) pNone (pSome (rVar 7))) (rLst (lCons (rB oIx (rVar 8) (rCall F__law_take 2 [] (lCons (rVar 4) (lCons (rC (.int 8)) lNil)))) lNil))) (rSl (rVar 6) (pSome (rB oAdd (rVar 7) (rCall F__law_take 2 [] (lCons (rVar 4) (lCons (rC (.int 2)) lNil))))) pNone)) (gNm 9))
def r_law_3_a_8_a_0_a_0 : SF := (sRet (rC (.bl false)))
def r_law_3_a_8_a_0 : SF := (sIf (rTB (rB oNe (rF bRepr2 (lCons (rCall F_is_columns 1 [] (lCons (rVar 5) lNil)) lNil)) (rF bRepr2 (lCons (rCall F__law_due 1 [] (lCons (rVar 5) lNil)) lNil)))) r_law_3_a_8_a_0_a_0 sNil)
def r_law_3_a_8_a_1_a_0 : SF := (sRet (rC (.bl false)))
def r_law_3_a_8_a_1 : SF := (sIf (rAndT (rNotT (rT (rCall F__law_due 1 [] (lCons (rVar 5) lNil)))) (rTB (rB oNe (rCall F__law_heard 1 [] (lCons (rVar 5) lNil)) (rF bRepr2 (lCons (rVar 5) lNil))))) r_law_3_a_8_a_1_a_0 sNil)
def r_law_3_a_8 : SF := (sFor (iSeq (rLst (lCons (rF bTuple (lCons (rVar 6) lNil)) (lCons (rF bTuple (lCons (rVar 9) lNil)) (lCons (rVar 6) (lCons (rTup lNil) (lCons (rC .non) (lCons (rC (.str "ab")) (lCons rDNil (lCons (rF bTuple (lCons (rB oAdd (rVar 6) (rSl (rVar 6) pNone (pSome (rC (.int 1))))) lNil)) lNil)))))))))) (gNm 5) (sSeq r_law_3_a_8_a_0 r_law_3_a_8_a_1))
def r_law_3_a_9 : SF := (sAsg (rF bTuple (lCons (rSl (rVar 6) pNone (pSome (rC (.int 6)))) lNil)) (gNm 10))
def r_law_3_a_10_a_0 : SF := (sAsg (rLc [13] (iSeq (rVar 10)) (gNm 13) tYesS (rB oIx (rVar 2) (rCall F__law_take 2 [] (lCons (rVar 4) (lCons (rC (.int 15)) lNil))))) (gNm 12))
def r_law_3_a_10_a_1_a_0_a_0 : SF := (sSetIx (rVar 12) (rVar 7) (rB oIx (rB oIx (rLst (lCons (rLst (lCons (rC (.str "a")) (lCons (rC (.str "bb")) lNil))) (lCons (rLst (lCons (rC (.int 0)) (lCons (rB oPow (rC (.int 10)) (rC (.int 30))) lNil))) lNil))) (rF bInt (lCons (rB oEq (rB oIx (rVar 13) (rC (.int 1))) (rC (.str "number"))) lNil))) (rCall F__law_take 2 [] (lCons (rVar 4) (lCons (rC (.int 2)) lNil)))))
def r_law_3_a_10_a_1_a_0 : SF := (sIf (rTB (rB oGt (rCall F__law_take 2 [] (lCons (rVar 4) (lCons (rC (.int 6)) lNil))) (rC (.int 0)))) r_law_3_a_10_a_1_a_0_a_0 sNil)
def r_law_3_a_10_a_1 : SF := (sFor (iEnum2 (lCons (rVar 10) lNil)) (gTp 2 (gsC (gNm 7) (gsC (gNm 13) gsN))) r_law_3_a_10_a_1_a_0)
def r_law_3_a_10_a_2_a_0_a_0 : SF := (sRet (rC (.bl false)))
def r_law_3_a_10_a_2_a_0 : SF := (sIf (rTB (rB oNe (rF bRepr2 (lCons (rCall F_is_row 2 [] (lCons (rVar 10) (lCons (rVar 5) lNil))) lNil)) (rF bRepr2 (lCons (rCall F__law_row_due 2 [] (lCons (rVar 10) (lCons (rVar 5) lNil))) lNil)))) r_law_3_a_10_a_2_a_0_a_0 sNil)
def r_law_3_a_10_a_2 : SF := (sFor (iSeq (rLst (lCons (rF bTuple (lCons (rVar 12) lNil)) (lCons (rVar 12) (lCons (rF bTuple (lCons (rB oAdd (rVar 12) (rSl (rVar 12) pNone (pSome (rC (.int 1))))) lNil)) (lCons (rF bTuple (lCons (rSl (rVar 12) (pSome (rC (.int 1))) pNone) lNil)) (lCons (rC .non) lNil))))))) (gNm 5) r_law_3_a_10_a_2_a_0)
def r_law_3_a_10 : SF := (sFor (iRng1 (lCons (rC (.int 8)) lNil)) (gNm 11) (sSeq r_law_3_a_10_a_0 (sSeq r_law_3_a_10_a_1 r_law_3_a_10_a_2)))
def r_law_3 : SF := (sFor (iRng1 (lCons (rF bMax2 (lCons (rC (.int 1)) (lCons (rF bMin2 (lCons (rF bLen2 (lCons (rVar 0) lNil)) (lCons (rC (.int 10)) lNil))) lNil))) lNil)) (gNm 3) (sSeq r_law_3_a_0 (sSeq r_law_3_a_1 (sSeq r_law_3_a_2 (sSeq r_law_3_a_3 (sSeq r_law_3_a_4 (sSeq r_law_3_a_5 (sSeq r_law_3_a_6 (sSeq r_law_3_a_7 (sSeq r_law_3_a_8 (sSeq r_law_3_a_9 r_law_3_a_10)))))))))))
def r_law_4 : SF := (sRet (rC (.bl true)))
def b_law : SF := (sSeq r_law_0 (sSeq r_law_1 (sSeq r_law_2 (sSeq r_law_3 r_law_4))))
def F_law : FF := mkF 14 b_law

/-- what the top has written -/
structure Txt (K : PySem.W.Frag) (mg : Str → Option Value) (G : Nat → Addr) : Prop where
  z_abs : mg "abs" = none
  z_all : mg "all" = none
  z_bool : mg "bool" = none
  z_enumerate : mg "enumerate" = none
  z_int : mg "int" = none
  z_isinstance : mg "isinstance" = none
  z_len : mg "len" = none
  z_max : mg "max" = none
  z_min : mg "min" = none
  z_range : mg "range" = none
  z_repr : mg "repr" = none
  z_str : mg "str" = none
  z_tuple : mg "tuple" = none
  z_zip : mg "zip" = none
  g_KINDS : GvK K mg G "KINDS" v_KINDS
  g_MOST_COLUMNS : GvK K mg G "MOST_COLUMNS" v_MOST_COLUMNS
  mg_InvalidColumns : mg "InvalidColumns" = some (.ref (G 1))
  mg_StreamError : mg "StreamError" = some (.ref (G 0))
  xf_value : ∀ c ∈ xf_value, XfC K (G c) ∧ PySem.W.findIn K (.ref (G c)) "value" = some none
  exm : ∀ c k b, exmT c k = some b → PySem.W.exmOne K (.ref (G c)) (k.v G) = some b
theorem db_KINDS : (("KINDS" : Str) == ("__debug__" : Str)) = false := by decide +kernel
theorem cd_KINDS : (("KINDS" : Str) == ("__classdict__" : Str)) = false := by decide +kernel
theorem db_MOST_COLUMNS : (("MOST_COLUMNS" : Str) == ("__debug__" : Str)) = false := by decide +kernel
theorem cd_MOST_COLUMNS : (("MOST_COLUMNS" : Str) == ("__classdict__" : Str)) = false := by decide +kernel
theorem db__ : (("_" : Str) == ("__debug__" : Str)) = false := by decide +kernel
theorem cd__ : (("_" : Str) == ("__classdict__" : Str)) = false := by decide +kernel
theorem db__law_at : (("_law_at" : Str) == ("__debug__" : Str)) = false := by decide +kernel
theorem cd__law_at : (("_law_at" : Str) == ("__classdict__" : Str)) = false := by decide +kernel
theorem db__law_bent : (("_law_bent" : Str) == ("__debug__" : Str)) = false := by decide +kernel
theorem cd__law_bent : (("_law_bent" : Str) == ("__classdict__" : Str)) = false := by decide +kernel
theorem db__law_blend : (("_law_blend" : Str) == ("__debug__" : Str)) = false := by decide +kernel
theorem cd__law_blend : (("_law_blend" : Str) == ("__classdict__" : Str)) = false := by decide +kernel
theorem db__law_cell : (("_law_cell" : Str) == ("__debug__" : Str)) = false := by decide +kernel
theorem cd__law_cell : (("_law_cell" : Str) == ("__classdict__" : Str)) = false := by decide +kernel
theorem db__law_due : (("_law_due" : Str) == ("__debug__" : Str)) = false := by decide +kernel
theorem cd__law_due : (("_law_due" : Str) == ("__classdict__" : Str)) = false := by decide +kernel
theorem db__law_head : (("_law_head" : Str) == ("__debug__" : Str)) = false := by decide +kernel
theorem cd__law_head : (("_law_head" : Str) == ("__classdict__" : Str)) = false := by decide +kernel
theorem db__law_heads : (("_law_heads" : Str) == ("__debug__" : Str)) = false := by decide +kernel
theorem cd__law_heads : (("_law_heads" : Str) == ("__classdict__" : Str)) = false := by decide +kernel
theorem db__law_heard : (("_law_heard" : Str) == ("__debug__" : Str)) = false := by decide +kernel
theorem cd__law_heard : (("_law_heard" : Str) == ("__classdict__" : Str)) = false := by decide +kernel
theorem db__law_heavy : (("_law_heavy" : Str) == ("__debug__" : Str)) = false := by decide +kernel
theorem cd__law_heavy : (("_law_heavy" : Str) == ("__classdict__" : Str)) = false := by decide +kernel
theorem db__law_is_number : (("_law_is_number" : Str) == ("__debug__" : Str)) = false := by decide +kernel
theorem cd__law_is_number : (("_law_is_number" : Str) == ("__classdict__" : Str)) = false := by decide +kernel
theorem db__law_is_word : (("_law_is_word" : Str) == ("__debug__" : Str)) = false := by decide +kernel
theorem cd__law_is_word : (("_law_is_word" : Str) == ("__classdict__" : Str)) = false := by decide +kernel
theorem db__law_k : (("_law_k" : Str) == ("__debug__" : Str)) = false := by decide +kernel
theorem cd__law_k : (("_law_k" : Str) == ("__classdict__" : Str)) = false := by decide +kernel
theorem db__law_names : (("_law_names" : Str) == ("__debug__" : Str)) = false := by decide +kernel
theorem cd__law_names : (("_law_names" : Str) == ("__classdict__" : Str)) = false := by decide +kernel
theorem db__law_odd : (("_law_odd" : Str) == ("__debug__" : Str)) = false := by decide +kernel
theorem cd__law_odd : (("_law_odd" : Str) == ("__classdict__" : Str)) = false := by decide +kernel
theorem db__law_one : (("_law_one" : Str) == ("__debug__" : Str)) = false := by decide +kernel
theorem cd__law_one : (("_law_one" : Str) == ("__classdict__" : Str)) = false := by decide +kernel
theorem db__law_pool : (("_law_pool" : Str) == ("__debug__" : Str)) = false := by decide +kernel
theorem cd__law_pool : (("_law_pool" : Str) == ("__classdict__" : Str)) = false := by decide +kernel
theorem db__law_pool_here : (("_law_pool_here" : Str) == ("__debug__" : Str)) = false := by decide +kernel
theorem cd__law_pool_here : (("_law_pool_here" : Str) == ("__classdict__" : Str)) = false := by decide +kernel
theorem db__law_result : (("_law_result" : Str) == ("__debug__" : Str)) = false := by decide +kernel
theorem cd__law_result : (("_law_result" : Str) == ("__classdict__" : Str)) = false := by decide +kernel
theorem db__law_row : (("_law_row" : Str) == ("__debug__" : Str)) = false := by decide +kernel
theorem cd__law_row : (("_law_row" : Str) == ("__classdict__" : Str)) = false := by decide +kernel
theorem db__law_row_due : (("_law_row_due" : Str) == ("__debug__" : Str)) = false := by decide +kernel
theorem cd__law_row_due : (("_law_row_due" : Str) == ("__classdict__" : Str)) = false := by decide +kernel
theorem db__law_script : (("_law_script" : Str) == ("__debug__" : Str)) = false := by decide +kernel
theorem cd__law_script : (("_law_script" : Str) == ("__classdict__" : Str)) = false := by decide +kernel
theorem db__law_seed : (("_law_seed" : Str) == ("__debug__" : Str)) = false := by decide +kernel
theorem cd__law_seed : (("_law_seed" : Str) == ("__classdict__" : Str)) = false := by decide +kernel
theorem db__law_sign : (("_law_sign" : Str) == ("__debug__" : Str)) = false := by decide +kernel
theorem cd__law_sign : (("_law_sign" : Str) == ("__classdict__" : Str)) = false := by decide +kernel
theorem db__law_some : (("_law_some" : Str) == ("__debug__" : Str)) = false := by decide +kernel
theorem cd__law_some : (("_law_some" : Str) == ("__classdict__" : Str)) = false := by decide +kernel
theorem db__law_take : (("_law_take" : Str) == ("__debug__" : Str)) = false := by decide +kernel
theorem cd__law_take : (("_law_take" : Str) == ("__classdict__" : Str)) = false := by decide +kernel
theorem db__law_turn : (("_law_turn" : Str) == ("__debug__" : Str)) = false := by decide +kernel
theorem cd__law_turn : (("_law_turn" : Str) == ("__classdict__" : Str)) = false := by decide +kernel
theorem db__law_value : (("_law_value" : Str) == ("__debug__" : Str)) = false := by decide +kernel
theorem cd__law_value : (("_law_value" : Str) == ("__classdict__" : Str)) = false := by decide +kernel
theorem db__law_values : (("_law_values" : Str) == ("__debug__" : Str)) = false := by decide +kernel
theorem cd__law_values : (("_law_values" : Str) == ("__classdict__" : Str)) = false := by decide +kernel
theorem db__law_wide : (("_law_wide" : Str) == ("__debug__" : Str)) = false := by decide +kernel
theorem cd__law_wide : (("_law_wide" : Str) == ("__classdict__" : Str)) = false := by decide +kernel
theorem db__law_words : (("_law_words" : Str) == ("__debug__" : Str)) = false := by decide +kernel
theorem cd__law_words : (("_law_words" : Str) == ("__classdict__" : Str)) = false := by decide +kernel
theorem db_abs : (("abs" : Str) == ("__debug__" : Str)) = false := by decide +kernel
theorem cd_abs : (("abs" : Str) == ("__classdict__" : Str)) = false := by decide +kernel
theorem db_all : (("all" : Str) == ("__debug__" : Str)) = false := by decide +kernel
theorem cd_all : (("all" : Str) == ("__classdict__" : Str)) = false := by decide +kernel
theorem db_bool : (("bool" : Str) == ("__debug__" : Str)) = false := by decide +kernel
theorem cd_bool : (("bool" : Str) == ("__classdict__" : Str)) = false := by decide +kernel
theorem db_columns : (("columns" : Str) == ("__debug__" : Str)) = false := by decide +kernel
theorem cd_columns : (("columns" : Str) == ("__classdict__" : Str)) = false := by decide +kernel
theorem db_e : (("e" : Str) == ("__debug__" : Str)) = false := by decide +kernel
theorem cd_e : (("e" : Str) == ("__classdict__" : Str)) = false := by decide +kernel
theorem db_fits : (("fits" : Str) == ("__debug__" : Str)) = false := by decide +kernel
theorem cd_fits : (("fits" : Str) == ("__classdict__" : Str)) = false := by decide +kernel
theorem db_int : (("int" : Str) == ("__debug__" : Str)) = false := by decide +kernel
theorem cd_int : (("int" : Str) == ("__classdict__" : Str)) = false := by decide +kernel
theorem db_is_column : (("is_column" : Str) == ("__debug__" : Str)) = false := by decide +kernel
theorem cd_is_column : (("is_column" : Str) == ("__classdict__" : Str)) = false := by decide +kernel
theorem db_is_columns : (("is_columns" : Str) == ("__debug__" : Str)) = false := by decide +kernel
theorem cd_is_columns : (("is_columns" : Str) == ("__classdict__" : Str)) = false := by decide +kernel
theorem db_is_number : (("is_number" : Str) == ("__debug__" : Str)) = false := by decide +kernel
theorem cd_is_number : (("is_number" : Str) == ("__classdict__" : Str)) = false := by decide +kernel
theorem db_is_of_kind : (("is_of_kind" : Str) == ("__debug__" : Str)) = false := by decide +kernel
theorem cd_is_of_kind : (("is_of_kind" : Str) == ("__classdict__" : Str)) = false := by decide +kernel
theorem db_is_row : (("is_row" : Str) == ("__debug__" : Str)) = false := by decide +kernel
theorem cd_is_row : (("is_row" : Str) == ("__classdict__" : Str)) = false := by decide +kernel
theorem db_is_word : (("is_word" : Str) == ("__debug__" : Str)) = false := by decide +kernel
theorem cd_is_word : (("is_word" : Str) == ("__classdict__" : Str)) = false := by decide +kernel
theorem db_isinstance : (("isinstance" : Str) == ("__debug__" : Str)) = false := by decide +kernel
theorem cd_isinstance : (("isinstance" : Str) == ("__classdict__" : Str)) = false := by decide +kernel
theorem db_kind : (("kind" : Str) == ("__debug__" : Str)) = false := by decide +kernel
theorem cd_kind : (("kind" : Str) == ("__classdict__" : Str)) = false := by decide +kernel
theorem db_len : (("len" : Str) == ("__debug__" : Str)) = false := by decide +kernel
theorem cd_len : (("len" : Str) == ("__classdict__" : Str)) = false := by decide +kernel
theorem db_max : (("max" : Str) == ("__debug__" : Str)) = false := by decide +kernel
theorem cd_max : (("max" : Str) == ("__classdict__" : Str)) = false := by decide +kernel
theorem db_min : (("min" : Str) == ("__debug__" : Str)) = false := by decide +kernel
theorem cd_min : (("min" : Str) == ("__classdict__" : Str)) = false := by decide +kernel
theorem db_name : (("name" : Str) == ("__debug__" : Str)) = false := by decide +kernel
theorem cd_name : (("name" : Str) == ("__classdict__" : Str)) = false := by decide +kernel
theorem db_pair : (("pair" : Str) == ("__debug__" : Str)) = false := by decide +kernel
theorem cd_pair : (("pair" : Str) == ("__classdict__" : Str)) = false := by decide +kernel
theorem db_part : (("part" : Str) == ("__debug__" : Str)) = false := by decide +kernel
theorem cd_part : (("part" : Str) == ("__classdict__" : Str)) = false := by decide +kernel
theorem db_range : (("range" : Str) == ("__debug__" : Str)) = false := by decide +kernel
theorem cd_range : (("range" : Str) == ("__classdict__" : Str)) = false := by decide +kernel
theorem db_repr : (("repr" : Str) == ("__debug__" : Str)) = false := by decide +kernel
theorem cd_repr : (("repr" : Str) == ("__classdict__" : Str)) = false := by decide +kernel
theorem db_str : (("str" : Str) == ("__debug__" : Str)) = false := by decide +kernel
theorem cd_str : (("str" : Str) == ("__classdict__" : Str)) = false := by decide +kernel
theorem db_tuple : (("tuple" : Str) == ("__debug__" : Str)) = false := by decide +kernel
theorem cd_tuple : (("tuple" : Str) == ("__classdict__" : Str)) = false := by decide +kernel
theorem db_value : (("value" : Str) == ("__debug__" : Str)) = false := by decide +kernel
theorem cd_value : (("value" : Str) == ("__classdict__" : Str)) = false := by decide +kernel
theorem nn_abs : ("abs" : Str) ≠ "__name__" := by decide +kernel
theorem nn_all : ("all" : Str) ≠ "__name__" := by decide +kernel
theorem nn_bool : ("bool" : Str) ≠ "__name__" := by decide +kernel
theorem nn_int : ("int" : Str) ≠ "__name__" := by decide +kernel
theorem nn_isinstance : ("isinstance" : Str) ≠ "__name__" := by decide +kernel
theorem nn_len : ("len" : Str) ≠ "__name__" := by decide +kernel
theorem nn_max : ("max" : Str) ≠ "__name__" := by decide +kernel
theorem nn_min : ("min" : Str) ≠ "__name__" := by decide +kernel
theorem nn_range : ("range" : Str) ≠ "__name__" := by decide +kernel
theorem nn_repr : ("repr" : Str) ≠ "__name__" := by decide +kernel
theorem nn_str : ("str" : Str) ≠ "__name__" := by decide +kernel
theorem nn_tuple : ("tuple" : Str) ≠ "__name__" := by decide +kernel
theorem bt_bool : bootBuiltins ("bool" : Str) = some (.type "bool") := by decide +kernel
theorem bt_int : bootBuiltins ("int" : Str) = some (.type "int") := by decide +kernel
theorem bt_str : bootBuiltins ("str" : Str) = some (.type "str") := by decide +kernel
theorem bt_tuple : bootBuiltins ("tuple" : Str) = some (.type "tuple") := by decide +kernel
theorem bf_abs : bootBuiltins ("abs" : Str) = some (.builtin "abs") := by decide +kernel
theorem bf_all : bootBuiltins ("all" : Str) = some (.builtin "all") := by decide +kernel
theorem bf_int : bootBuiltins ("int" : Str) = some (.type "int") := by decide +kernel
theorem bf_isinstance : bootBuiltins ("isinstance" : Str) = some (.builtin "isinstance") := by decide +kernel
theorem bf_len : bootBuiltins ("len" : Str) = some (.builtin "len") := by decide +kernel
theorem bf_max : bootBuiltins ("max" : Str) = some (.builtin "max") := by decide +kernel
theorem bf_min : bootBuiltins ("min" : Str) = some (.builtin "min") := by decide +kernel
theorem bf_range : bootBuiltins ("range" : Str) = some (.type "range") := by decide +kernel
theorem bf_repr : bootBuiltins ("repr" : Str) = some (.builtin "repr") := by decide +kernel
theorem bf_tuple : bootBuiltins ("tuple" : Str) = some (.type "tuple") := by decide +kernel
theorem nm_is_word_0 : N_is_word[0]? = some ("value" : Str) := rfl
theorem vs_is_word_0 : Vis (defScope s_is_word) "value" := by first | exact Or.inl (by decide +kernel) | exact Or.inr (Or.inl (by decide +kernel)) | exact Or.inr (Or.inr (by decide +kernel))
theorem gl_is_word_isinstance : (defScope s_is_word).names.lookup ("isinstance" : Str) = some NameKind.globalImplicit := by decide +kernel
theorem gl_is_word_str : (defScope s_is_word).names.lookup ("str" : Str) = some NameKind.globalImplicit := by decide +kernel
theorem nm_is_number_0 : N_is_number[0]? = some ("value" : Str) := rfl
theorem vs_is_number_0 : Vis (defScope s_is_number) "value" := by first | exact Or.inl (by decide +kernel) | exact Or.inr (Or.inl (by decide +kernel)) | exact Or.inr (Or.inr (by decide +kernel))
theorem gl_is_number_bool : (defScope s_is_number).names.lookup ("bool" : Str) = some NameKind.globalImplicit := by decide +kernel
theorem gl_is_number_int : (defScope s_is_number).names.lookup ("int" : Str) = some NameKind.globalImplicit := by decide +kernel
theorem gl_is_number_isinstance : (defScope s_is_number).names.lookup ("isinstance" : Str) = some NameKind.globalImplicit := by decide +kernel
theorem nm_is_column_0 : N_is_column[0]? = some ("value" : Str) := rfl
theorem nm_is_column_1 : N_is_column[1]? = some ("name" : Str) := rfl
theorem nm_is_column_2 : N_is_column[2]? = some ("kind" : Str) := rfl
theorem vs_is_column_0 : Vis (defScope s_is_column) "value" := by first | exact Or.inl (by decide +kernel) | exact Or.inr (Or.inl (by decide +kernel)) | exact Or.inr (Or.inr (by decide +kernel))
theorem vs_is_column_1 : Vis (defScope s_is_column) "name" := by first | exact Or.inl (by decide +kernel) | exact Or.inr (Or.inl (by decide +kernel)) | exact Or.inr (Or.inr (by decide +kernel))
theorem vs_is_column_2 : Vis (defScope s_is_column) "kind" := by first | exact Or.inl (by decide +kernel) | exact Or.inr (Or.inl (by decide +kernel)) | exact Or.inr (Or.inr (by decide +kernel))
theorem lc_is_column_1 : Loc (defScope s_is_column) "name" := by first | exact Or.inl (by decide +kernel) | exact Or.inr (by decide +kernel)
theorem lc_is_column_2 : Loc (defScope s_is_column) "kind" := by first | exact Or.inl (by decide +kernel) | exact Or.inr (by decide +kernel)
theorem gl_is_column_KINDS : (defScope s_is_column).names.lookup ("KINDS" : Str) = some NameKind.globalImplicit := by decide +kernel
theorem gl_is_column_is_word : (defScope s_is_column).names.lookup ("is_word" : Str) = some NameKind.globalImplicit := by decide +kernel
theorem gl_is_column_isinstance : (defScope s_is_column).names.lookup ("isinstance" : Str) = some NameKind.globalImplicit := by decide +kernel
theorem gl_is_column_len : (defScope s_is_column).names.lookup ("len" : Str) = some NameKind.globalImplicit := by decide +kernel
theorem gl_is_column_tuple : (defScope s_is_column).names.lookup ("tuple" : Str) = some NameKind.globalImplicit := by decide +kernel
theorem nm_is_columns_0 : N_is_columns[0]? = some ("value" : Str) := rfl
theorem vs_is_columns_0 : Vis (defScope s_is_columns) "value" := by first | exact Or.inl (by decide +kernel) | exact Or.inr (Or.inl (by decide +kernel)) | exact Or.inr (Or.inr (by decide +kernel))
theorem gl_is_columns_MOST_COLUMNS : (defScope s_is_columns).names.lookup ("MOST_COLUMNS" : Str) = some NameKind.globalImplicit := by decide +kernel
theorem gl_is_columns_all : (defScope s_is_columns).names.lookup ("all" : Str) = some NameKind.globalImplicit := by decide +kernel
theorem gl_is_columns_isinstance : (defScope s_is_columns).names.lookup ("isinstance" : Str) = some NameKind.globalImplicit := by decide +kernel
theorem gl_is_columns_len : (defScope s_is_columns).names.lookup ("len" : Str) = some NameKind.globalImplicit := by decide +kernel
theorem gl_is_columns_tuple : (defScope s_is_columns).names.lookup ("tuple" : Str) = some NameKind.globalImplicit := by decide +kernel
theorem nm_is_of_kind_0 : N_is_of_kind[0]? = some ("kind" : Str) := rfl
theorem nm_is_of_kind_1 : N_is_of_kind[1]? = some ("value" : Str) := rfl
theorem vs_is_of_kind_0 : Vis (defScope s_is_of_kind) "kind" := by first | exact Or.inl (by decide +kernel) | exact Or.inr (Or.inl (by decide +kernel)) | exact Or.inr (Or.inr (by decide +kernel))
theorem vs_is_of_kind_1 : Vis (defScope s_is_of_kind) "value" := by first | exact Or.inl (by decide +kernel) | exact Or.inr (Or.inl (by decide +kernel)) | exact Or.inr (Or.inr (by decide +kernel))
theorem gl_is_of_kind_is_number : (defScope s_is_of_kind).names.lookup ("is_number" : Str) = some NameKind.globalImplicit := by decide +kernel
theorem gl_is_of_kind_is_word : (defScope s_is_of_kind).names.lookup ("is_word" : Str) = some NameKind.globalImplicit := by decide +kernel
theorem nm_fits_0 : N_fits[0]? = some ("columns" : Str) := rfl
theorem nm_fits_1 : N_fits[1]? = some ("value" : Str) := rfl
theorem vs_fits_0 : Vis (defScope s_fits) "columns" := by first | exact Or.inl (by decide +kernel) | exact Or.inr (Or.inl (by decide +kernel)) | exact Or.inr (Or.inr (by decide +kernel))
theorem vs_fits_1 : Vis (defScope s_fits) "value" := by first | exact Or.inl (by decide +kernel) | exact Or.inr (Or.inl (by decide +kernel)) | exact Or.inr (Or.inr (by decide +kernel))
theorem gl_fits_all : (defScope s_fits).names.lookup ("all" : Str) = some NameKind.globalImplicit := by decide +kernel
theorem gl_fits_isinstance : (defScope s_fits).names.lookup ("isinstance" : Str) = some NameKind.globalImplicit := by decide +kernel
theorem gl_fits_len : (defScope s_fits).names.lookup ("len" : Str) = some NameKind.globalImplicit := by decide +kernel
theorem gl_fits_tuple : (defScope s_fits).names.lookup ("tuple" : Str) = some NameKind.globalImplicit := by decide +kernel
theorem nm_is_row_0 : N_is_row[0]? = some ("columns" : Str) := rfl
theorem nm_is_row_1 : N_is_row[1]? = some ("value" : Str) := rfl
theorem vs_is_row_0 : Vis (defScope s_is_row) "columns" := by first | exact Or.inl (by decide +kernel) | exact Or.inr (Or.inl (by decide +kernel)) | exact Or.inr (Or.inr (by decide +kernel))
theorem vs_is_row_1 : Vis (defScope s_is_row) "value" := by first | exact Or.inl (by decide +kernel) | exact Or.inr (Or.inl (by decide +kernel)) | exact Or.inr (Or.inr (by decide +kernel))
theorem gl_is_row_fits : (defScope s_is_row).names.lookup ("fits" : Str) = some NameKind.globalImplicit := by decide +kernel
theorem gl_is_row_is_columns : (defScope s_is_row).names.lookup ("is_columns" : Str) = some NameKind.globalImplicit := by decide +kernel
theorem nm__law_pool_0 : N__law_pool[0]? = some ("_law_script" : Str) := rfl
theorem nm__law_pool_1 : N__law_pool[1]? = some ("_law_k" : Str) := rfl
theorem nm__law_pool_2 : N__law_pool[2]? = some ("_law_cell" : Str) := rfl
theorem nm__law_pool_3 : N__law_pool[3]? = some ("_law_heavy" : Str) := rfl
theorem nm__law_pool_4 : N__law_pool[4]? = some ("_law_blend" : Str) := rfl
theorem nm__law_pool_5 : N__law_pool[5]? = some ("_law_seed" : Str) := rfl
theorem vs__law_pool_0 : Vis (defScope s__law_pool) "_law_script" := by first | exact Or.inl (by decide +kernel) | exact Or.inr (Or.inl (by decide +kernel)) | exact Or.inr (Or.inr (by decide +kernel))
theorem vs__law_pool_1 : Vis (defScope s__law_pool) "_law_k" := by first | exact Or.inl (by decide +kernel) | exact Or.inr (Or.inl (by decide +kernel)) | exact Or.inr (Or.inr (by decide +kernel))
theorem vs__law_pool_2 : Vis (defScope s__law_pool) "_law_cell" := by first | exact Or.inl (by decide +kernel) | exact Or.inr (Or.inl (by decide +kernel)) | exact Or.inr (Or.inr (by decide +kernel))
theorem vs__law_pool_3 : Vis (defScope s__law_pool) "_law_heavy" := by first | exact Or.inl (by decide +kernel) | exact Or.inr (Or.inl (by decide +kernel)) | exact Or.inr (Or.inr (by decide +kernel))
theorem vs__law_pool_4 : Vis (defScope s__law_pool) "_law_blend" := by first | exact Or.inl (by decide +kernel) | exact Or.inr (Or.inl (by decide +kernel)) | exact Or.inr (Or.inr (by decide +kernel))
theorem vs__law_pool_5 : Vis (defScope s__law_pool) "_law_seed" := by first | exact Or.inl (by decide +kernel) | exact Or.inr (Or.inl (by decide +kernel)) | exact Or.inr (Or.inr (by decide +kernel))
theorem lc__law_pool_2 : Loc (defScope s__law_pool) "_law_cell" := by first | exact Or.inl (by decide +kernel) | exact Or.inr (by decide +kernel)
theorem lc__law_pool_3 : Loc (defScope s__law_pool) "_law_heavy" := by first | exact Or.inl (by decide +kernel) | exact Or.inr (by decide +kernel)
theorem lc__law_pool_4 : Loc (defScope s__law_pool) "_law_blend" := by first | exact Or.inl (by decide +kernel) | exact Or.inr (by decide +kernel)
theorem lc__law_pool_5 : Loc (defScope s__law_pool) "_law_seed" := by first | exact Or.inl (by decide +kernel) | exact Or.inr (by decide +kernel)
theorem gl__law_pool_abs : (defScope s__law_pool).names.lookup ("abs" : Str) = some NameKind.globalImplicit := by decide +kernel
theorem gl__law_pool_int : (defScope s__law_pool).names.lookup ("int" : Str) = some NameKind.globalImplicit := by decide +kernel
theorem gl__law_pool_len : (defScope s__law_pool).names.lookup ("len" : Str) = some NameKind.globalImplicit := by decide +kernel
theorem nm__law_take_0 : N__law_take[0]? = some ("_law_pool_here" : Str) := rfl
theorem nm__law_take_1 : N__law_take[1]? = some ("_law_wide" : Str) := rfl
theorem nm__law_take_2 : N__law_take[2]? = some ("_law_result" : Str) := rfl
theorem vs__law_take_0 : Vis (defScope s__law_take) "_law_pool_here" := by first | exact Or.inl (by decide +kernel) | exact Or.inr (Or.inl (by decide +kernel)) | exact Or.inr (Or.inr (by decide +kernel))
theorem vs__law_take_1 : Vis (defScope s__law_take) "_law_wide" := by first | exact Or.inl (by decide +kernel) | exact Or.inr (Or.inl (by decide +kernel)) | exact Or.inr (Or.inr (by decide +kernel))
theorem vs__law_take_2 : Vis (defScope s__law_take) "_law_result" := by first | exact Or.inl (by decide +kernel) | exact Or.inr (Or.inl (by decide +kernel)) | exact Or.inr (Or.inr (by decide +kernel))
theorem lc__law_take_2 : Loc (defScope s__law_take) "_law_result" := by first | exact Or.inl (by decide +kernel) | exact Or.inr (by decide +kernel)
theorem nm__law_is_word_0 : N__law_is_word[0]? = some ("_law_value" : Str) := rfl
theorem vs__law_is_word_0 : Vis (defScope s__law_is_word) "_law_value" := by first | exact Or.inl (by decide +kernel) | exact Or.inr (Or.inl (by decide +kernel)) | exact Or.inr (Or.inr (by decide +kernel))
theorem gl__law_is_word_isinstance : (defScope s__law_is_word).names.lookup ("isinstance" : Str) = some NameKind.globalImplicit := by decide +kernel
theorem gl__law_is_word_str : (defScope s__law_is_word).names.lookup ("str" : Str) = some NameKind.globalImplicit := by decide +kernel
theorem nm__law_is_number_0 : N__law_is_number[0]? = some ("_law_value" : Str) := rfl
theorem vs__law_is_number_0 : Vis (defScope s__law_is_number) "_law_value" := by first | exact Or.inl (by decide +kernel) | exact Or.inr (Or.inl (by decide +kernel)) | exact Or.inr (Or.inr (by decide +kernel))
theorem gl__law_is_number_bool : (defScope s__law_is_number).names.lookup ("bool" : Str) = some NameKind.globalImplicit := by decide +kernel
theorem gl__law_is_number_int : (defScope s__law_is_number).names.lookup ("int" : Str) = some NameKind.globalImplicit := by decide +kernel
theorem gl__law_is_number_isinstance : (defScope s__law_is_number).names.lookup ("isinstance" : Str) = some NameKind.globalImplicit := by decide +kernel
theorem nm__law_due_0 : N__law_due[0]? = some ("_law_value" : Str) := rfl
theorem nm__law_due_1 : N__law_due[1]? = some ("_law_names" : Str) := rfl
theorem nm__law_due_2 : N__law_due[2]? = some ("_law_one" : Str) := rfl
theorem vs__law_due_0 : Vis (defScope s__law_due) "_law_value" := by first | exact Or.inl (by decide +kernel) | exact Or.inr (Or.inl (by decide +kernel)) | exact Or.inr (Or.inr (by decide +kernel))
theorem vs__law_due_1 : Vis (defScope s__law_due) "_law_names" := by first | exact Or.inl (by decide +kernel) | exact Or.inr (Or.inl (by decide +kernel)) | exact Or.inr (Or.inr (by decide +kernel))
theorem vs__law_due_2 : Vis (defScope s__law_due) "_law_one" := by first | exact Or.inl (by decide +kernel) | exact Or.inr (Or.inl (by decide +kernel)) | exact Or.inr (Or.inr (by decide +kernel))
theorem lc__law_due_1 : Loc (defScope s__law_due) "_law_names" := by first | exact Or.inl (by decide +kernel) | exact Or.inr (by decide +kernel)
theorem lc__law_due_2 : Loc (defScope s__law_due) "_law_one" := by first | exact Or.inl (by decide +kernel) | exact Or.inr (by decide +kernel)
theorem gl__law_due__law_is_word : (defScope s__law_due).names.lookup ("_law_is_word" : Str) = some NameKind.globalImplicit := by decide +kernel
theorem gl__law_due_isinstance : (defScope s__law_due).names.lookup ("isinstance" : Str) = some NameKind.globalImplicit := by decide +kernel
theorem gl__law_due_len : (defScope s__law_due).names.lookup ("len" : Str) = some NameKind.globalImplicit := by decide +kernel
theorem gl__law_due_range : (defScope s__law_due).names.lookup ("range" : Str) = some NameKind.globalImplicit := by decide +kernel
theorem gl__law_due_str : (defScope s__law_due).names.lookup ("str" : Str) = some NameKind.globalImplicit := by decide +kernel
theorem gl__law_due_tuple : (defScope s__law_due).names.lookup ("tuple" : Str) = some NameKind.globalImplicit := by decide +kernel
theorem nm__law_row_due_0 : N__law_row_due[0]? = some ("_law_heads" : Str) := rfl
theorem nm__law_row_due_1 : N__law_row_due[1]? = some ("_law_row" : Str) := rfl
theorem nm__law_row_due_2 : N__law_row_due[2]? = some ("_law_at" : Str) := rfl
theorem nm__law_row_due_3 : N__law_row_due[3]? = some ("_law_head" : Str) := rfl
theorem vs__law_row_due_0 : Vis (defScope s__law_row_due) "_law_heads" := by first | exact Or.inl (by decide +kernel) | exact Or.inr (Or.inl (by decide +kernel)) | exact Or.inr (Or.inr (by decide +kernel))
theorem vs__law_row_due_1 : Vis (defScope s__law_row_due) "_law_row" := by first | exact Or.inl (by decide +kernel) | exact Or.inr (Or.inl (by decide +kernel)) | exact Or.inr (Or.inr (by decide +kernel))
theorem vs__law_row_due_2 : Vis (defScope s__law_row_due) "_law_at" := by first | exact Or.inl (by decide +kernel) | exact Or.inr (Or.inl (by decide +kernel)) | exact Or.inr (Or.inr (by decide +kernel))
theorem vs__law_row_due_3 : Vis (defScope s__law_row_due) "_law_head" := by first | exact Or.inl (by decide +kernel) | exact Or.inr (Or.inl (by decide +kernel)) | exact Or.inr (Or.inr (by decide +kernel))
theorem lc__law_row_due_2 : Loc (defScope s__law_row_due) "_law_at" := by first | exact Or.inl (by decide +kernel) | exact Or.inr (by decide +kernel)
theorem lc__law_row_due_3 : Loc (defScope s__law_row_due) "_law_head" := by first | exact Or.inl (by decide +kernel) | exact Or.inr (by decide +kernel)
theorem gl__law_row_due__law_is_number : (defScope s__law_row_due).names.lookup ("_law_is_number" : Str) = some NameKind.globalImplicit := by decide +kernel
theorem gl__law_row_due__law_is_word : (defScope s__law_row_due).names.lookup ("_law_is_word" : Str) = some NameKind.globalImplicit := by decide +kernel
theorem gl__law_row_due_int : (defScope s__law_row_due).names.lookup ("int" : Str) = some NameKind.globalImplicit := by decide +kernel
theorem gl__law_row_due_isinstance : (defScope s__law_row_due).names.lookup ("isinstance" : Str) = some NameKind.globalImplicit := by decide +kernel
theorem gl__law_row_due_len : (defScope s__law_row_due).names.lookup ("len" : Str) = some NameKind.globalImplicit := by decide +kernel
theorem gl__law_row_due_tuple : (defScope s__law_row_due).names.lookup ("tuple" : Str) = some NameKind.globalImplicit := by decide +kernel
theorem nm__law_heard_0 : N__law_heard[0]? = some ("_law_value" : Str) := rfl
theorem vs__law_heard_0 : Vis (defScope s__law_heard) "_law_value" := by first | exact Or.inl (by decide +kernel) | exact Or.inr (Or.inl (by decide +kernel)) | exact Or.inr (Or.inr (by decide +kernel))
theorem gl__law_heard_is_row : (defScope s__law_heard).names.lookup ("is_row" : Str) = some NameKind.globalImplicit := by decide +kernel
theorem nm_law_0 : N_law[0]? = some ("_law_script" : Str) := rfl
theorem nm_law_1 : N_law[1]? = some ("_law_words" : Str) := rfl
theorem nm_law_2 : N_law[2]? = some ("_law_values" : Str) := rfl
theorem nm_law_3 : N_law[3]? = some ("_law_k" : Str) := rfl
theorem nm_law_4 : N_law[4]? = some ("_law_pool_here" : Str) := rfl
theorem nm_law_5 : N_law[5]? = some ("_law_value" : Str) := rfl
theorem nm_law_6 : N_law[6]? = some ("_law_heads" : Str) := rfl
theorem nm_law_7 : N_law[7]? = some ("_law_at" : Str) := rfl
theorem nm_law_8 : N_law[8]? = some ("_law_odd" : Str) := rfl
theorem nm_law_9 : N_law[9]? = some ("_law_bent" : Str) := rfl
theorem nm_law_10 : N_law[10]? = some ("_law_some" : Str) := rfl
theorem nm_law_11 : N_law[11]? = some ("_law_turn" : Str) := rfl
theorem nm_law_12 : N_law[12]? = some ("_law_row" : Str) := rfl
theorem nm_law_13 : N_law[13]? = some ("_law_head" : Str) := rfl
theorem vs_law_0 : Vis (defScope s_law) "_law_script" := by first | exact Or.inl (by decide +kernel) | exact Or.inr (Or.inl (by decide +kernel)) | exact Or.inr (Or.inr (by decide +kernel))
theorem vs_law_1 : Vis (defScope s_law) "_law_words" := by first | exact Or.inl (by decide +kernel) | exact Or.inr (Or.inl (by decide +kernel)) | exact Or.inr (Or.inr (by decide +kernel))
theorem vs_law_3 : Vis (defScope s_law) "_law_k" := by first | exact Or.inl (by decide +kernel) | exact Or.inr (Or.inl (by decide +kernel)) | exact Or.inr (Or.inr (by decide +kernel))
theorem vs_law_4 : Vis (defScope s_law) "_law_pool_here" := by first | exact Or.inl (by decide +kernel) | exact Or.inr (Or.inl (by decide +kernel)) | exact Or.inr (Or.inr (by decide +kernel))
theorem vs_law_5 : Vis (defScope s_law) "_law_value" := by first | exact Or.inl (by decide +kernel) | exact Or.inr (Or.inl (by decide +kernel)) | exact Or.inr (Or.inr (by decide +kernel))
theorem vs_law_6 : Vis (defScope s_law) "_law_heads" := by first | exact Or.inl (by decide +kernel) | exact Or.inr (Or.inl (by decide +kernel)) | exact Or.inr (Or.inr (by decide +kernel))
theorem vs_law_7 : Vis (defScope s_law) "_law_at" := by first | exact Or.inl (by decide +kernel) | exact Or.inr (Or.inl (by decide +kernel)) | exact Or.inr (Or.inr (by decide +kernel))
theorem vs_law_8 : Vis (defScope s_law) "_law_odd" := by first | exact Or.inl (by decide +kernel) | exact Or.inr (Or.inl (by decide +kernel)) | exact Or.inr (Or.inr (by decide +kernel))
theorem vs_law_9 : Vis (defScope s_law) "_law_bent" := by first | exact Or.inl (by decide +kernel) | exact Or.inr (Or.inl (by decide +kernel)) | exact Or.inr (Or.inr (by decide +kernel))
theorem vs_law_10 : Vis (defScope s_law) "_law_some" := by first | exact Or.inl (by decide +kernel) | exact Or.inr (Or.inl (by decide +kernel)) | exact Or.inr (Or.inr (by decide +kernel))
theorem vs_law_12 : Vis (defScope s_law) "_law_row" := by first | exact Or.inl (by decide +kernel) | exact Or.inr (Or.inl (by decide +kernel)) | exact Or.inr (Or.inr (by decide +kernel))
theorem vs_law_13 : Vis (defScope s_law) "_law_head" := by first | exact Or.inl (by decide +kernel) | exact Or.inr (Or.inl (by decide +kernel)) | exact Or.inr (Or.inr (by decide +kernel))
theorem lc_law_1 : Loc (defScope s_law) "_law_words" := by first | exact Or.inl (by decide +kernel) | exact Or.inr (by decide +kernel)
theorem lc_law_2 : Loc (defScope s_law) "_law_values" := by first | exact Or.inl (by decide +kernel) | exact Or.inr (by decide +kernel)
theorem lc_law_3 : Loc (defScope s_law) "_law_k" := by first | exact Or.inl (by decide +kernel) | exact Or.inr (by decide +kernel)
theorem lc_law_4 : Loc (defScope s_law) "_law_pool_here" := by first | exact Or.inl (by decide +kernel) | exact Or.inr (by decide +kernel)
theorem lc_law_5 : Loc (defScope s_law) "_law_value" := by first | exact Or.inl (by decide +kernel) | exact Or.inr (by decide +kernel)
theorem lc_law_6 : Loc (defScope s_law) "_law_heads" := by first | exact Or.inl (by decide +kernel) | exact Or.inr (by decide +kernel)
theorem lc_law_7 : Loc (defScope s_law) "_law_at" := by first | exact Or.inl (by decide +kernel) | exact Or.inr (by decide +kernel)
theorem lc_law_8 : Loc (defScope s_law) "_law_odd" := by first | exact Or.inl (by decide +kernel) | exact Or.inr (by decide +kernel)
theorem lc_law_9 : Loc (defScope s_law) "_law_bent" := by first | exact Or.inl (by decide +kernel) | exact Or.inr (by decide +kernel)
theorem lc_law_10 : Loc (defScope s_law) "_law_some" := by first | exact Or.inl (by decide +kernel) | exact Or.inr (by decide +kernel)
theorem lc_law_11 : Loc (defScope s_law) "_law_turn" := by first | exact Or.inl (by decide +kernel) | exact Or.inr (by decide +kernel)
theorem lc_law_13 : Loc (defScope s_law) "_law_head" := by first | exact Or.inl (by decide +kernel) | exact Or.inr (by decide +kernel)
theorem gl_law__law_due : (defScope s_law).names.lookup ("_law_due" : Str) = some NameKind.globalImplicit := by decide +kernel
theorem gl_law__law_heard : (defScope s_law).names.lookup ("_law_heard" : Str) = some NameKind.globalImplicit := by decide +kernel
theorem gl_law__law_is_word : (defScope s_law).names.lookup ("_law_is_word" : Str) = some NameKind.globalImplicit := by decide +kernel
theorem gl_law__law_pool : (defScope s_law).names.lookup ("_law_pool" : Str) = some NameKind.globalImplicit := by decide +kernel
theorem gl_law__law_row_due : (defScope s_law).names.lookup ("_law_row_due" : Str) = some NameKind.globalImplicit := by decide +kernel
theorem gl_law__law_take : (defScope s_law).names.lookup ("_law_take" : Str) = some NameKind.globalImplicit := by decide +kernel
theorem gl_law_int : (defScope s_law).names.lookup ("int" : Str) = some NameKind.globalImplicit := by decide +kernel
theorem gl_law_is_columns : (defScope s_law).names.lookup ("is_columns" : Str) = some NameKind.globalImplicit := by decide +kernel
theorem gl_law_is_row : (defScope s_law).names.lookup ("is_row" : Str) = some NameKind.globalImplicit := by decide +kernel
theorem gl_law_is_word : (defScope s_law).names.lookup ("is_word" : Str) = some NameKind.globalImplicit := by decide +kernel
theorem gl_law_len : (defScope s_law).names.lookup ("len" : Str) = some NameKind.globalImplicit := by decide +kernel
theorem gl_law_max : (defScope s_law).names.lookup ("max" : Str) = some NameKind.globalImplicit := by decide +kernel
theorem gl_law_min : (defScope s_law).names.lookup ("min" : Str) = some NameKind.globalImplicit := by decide +kernel
theorem gl_law_repr : (defScope s_law).names.lookup ("repr" : Str) = some NameKind.globalImplicit := by decide +kernel
theorem gl_law_tuple : (defScope s_law).names.lookup ("tuple" : Str) = some NameKind.globalImplicit := by decide +kernel
section
variable {P : Program} {w : World} {K : PySem.W.Frag} {mg : Str → Option Value} {base : Heap} {G : Nat → Addr}
theorem ok_is_word (T : Txt K mg G) {f : Addr} {fd : FuncData} (D : Fun K "is_word" "is_word" s_is_word f fd) : FnG P w K mg base G 1 f fd ["value"] F_is_word :=
  fng_of (N := N_is_word) D ⟨rfl, rfl, rfl, by decide +kernel, rfl, by decide +kernel, by decide +kernel⟩ rfl fun cd A outer s H E hr ok => by
    have h_0 : SS (cxOf (L2.CX P w) P w K mg base N_is_word "is_word" (defScope s_is_word) f cd A outer s H E) G (WE E) ((defBody s_is_word).getD 0 (.Pass ⟨0, 0, 0, 0⟩)) r_is_word_0 := (ss_ret (se_and (se_callB (fn_isi ist_b) T.z_isinstance (sa_consP (se_var 0 nm_is_word_0 vs_is_word_0 db_value cd_value) (sa_consP (se_bltn T.z_str bt_str gl_is_word_str nn_str db_str) sa_nil)) gl_is_word_isinstance bf_isinstance nn_isinstance db_isinstance) (se_and (se_isascii (se_var 0 nm_is_word_0 vs_is_word_0 db_value cd_value)) (se_and (se_isalpha (se_var 0 nm_is_word_0 vs_is_word_0 db_value cd_value)) (se_one (se_islower (se_var 0 nm_is_word_0 vs_is_word_0 db_value cd_value)))))))
    exact (ss_one h_0)
theorem ok_is_number (T : Txt K mg G) {f : Addr} {fd : FuncData} (D : Fun K "is_number" "is_number" s_is_number f fd) : FnG P w K mg base G 1 f fd ["value"] F_is_number :=
  fng_of (N := N_is_number) D ⟨rfl, rfl, rfl, by decide +kernel, rfl, by decide +kernel, by decide +kernel⟩ rfl fun cd A outer s H E hr ok => by
    have h_0 : SS (cxOf (L2.CX P w) P w K mg base N_is_number "is_number" (defScope s_is_number) f cd A outer s H E) G (WE E) ((defBody s_is_number).getD 0 (.Pass ⟨0, 0, 0, 0⟩)) r_is_number_0 := (ss_ret (se_and (se_callB (fn_isi ist_b) T.z_isinstance (sa_consP (se_var 0 nm_is_number_0 vs_is_number_0 db_value cd_value) (sa_consP (se_bltn T.z_int bt_int gl_is_number_int nn_int db_int) sa_nil)) gl_is_number_isinstance bf_isinstance nn_isinstance db_isinstance) (se_and (se_not (se_callB (fn_isi ist_b) T.z_isinstance (sa_consP (se_var 0 nm_is_number_0 vs_is_number_0 db_value cd_value) (sa_consP (se_bltn T.z_bool bt_bool gl_is_number_bool nn_bool db_bool) sa_nil)) gl_is_number_isinstance bf_isinstance nn_isinstance db_isinstance)) (se_one (se_cmp os_ge (se_var 0 nm_is_number_0 vs_is_number_0 db_value cd_value) se_int)))))
    exact (ss_one h_0)
theorem ok_is_column (T : Txt K mg G) {f : Addr} {fd : FuncData} (D : Fun K "is_column" "is_column" s_is_column f fd) {f_is_word : Addr} {fd_is_word : FuncData} (D_is_word : DefA K mg "is_word" f_is_word fd_is_word ["value"]) (g_is_word : FnG P w K mg base G 1 f_is_word fd_is_word ["value"] F_is_word) : FnG P w K mg base G 2 f fd ["value"] F_is_column :=
  fng_of (N := N_is_column) D ⟨rfl, rfl, rfl, by decide +kernel, rfl, by decide +kernel, by decide +kernel⟩ rfl fun cd A outer s H E hr ok => by
    have h_0_a_0 : SS (cxOf (L2.CX P w) P w K mg base N_is_column "is_column" (defScope s_is_column) f cd A outer s H E) G (WE E) ((subA ((defBody s_is_column).getD 0 (.Pass ⟨0, 0, 0, 0⟩))).getD 0 (.Pass ⟨0, 0, 0, 0⟩)) r_is_column_0_a_0 := (ss_ret se_bl)
    have h_0 : SS (cxOf (L2.CX P w) P w K mg base N_is_column "is_column" (defScope s_is_column) f cd A outer s H E) G (WE E) ((defBody s_is_column).getD 0 (.Pass ⟨0, 0, 0, 0⟩)) r_is_column_0 := (ss_if (st_w (sw_or (st_not (st_truth (se_callB (fn_isi ist_b) T.z_isinstance (sa_consP (se_var 0 nm_is_column_0 vs_is_column_0 db_value cd_value) (sa_consP (se_bltn T.z_tuple bt_tuple gl_is_column_tuple nn_tuple db_tuple) sa_nil)) gl_is_column_isinstance bf_isinstance nn_isinstance db_isinstance))) (sw_or1 (st_cmp (os_ne ok.toXOs) (se_callB fn_len2 T.z_len (sa_consP (se_var 0 nm_is_column_0 vs_is_column_0 db_value cd_value) sa_nil) gl_is_column_len bf_len nn_len db_len) se_int)))) (ss_one h_0_a_0) ss_nil)
    have h_1 : SS (cxOf (L2.CX P w) P w K mg base N_is_column "is_column" (defScope s_is_column) f cd A outer s H E) G (WE E) ((defBody s_is_column).getD 1 (.Pass ⟨0, 0, 0, 0⟩)) r_is_column_1 := (ss_asg (se_var 0 nm_is_column_0 vs_is_column_0 db_value cd_value) (sg_tup ok (sgs_cons (sg_name ok.toXOs 1 nm_is_column_1 lc_is_column_1 (.inl rfl)) (sgs_cons (sg_name ok.toXOs 2 nm_is_column_2 lc_is_column_2 (.inl rfl)) sgs_nil))))
    have h_2 : SS (cxOf (L2.CX P w) P w K mg base N_is_column "is_column" (defScope s_is_column) f cd A outer s H E) G (WE E) ((defBody s_is_column).getD 2 (.Pass ⟨0, 0, 0, 0⟩)) r_is_column_2 := (ss_ret (se_and (se_call g_is_word ok.toXOs (hr.mono (by decide)) D_is_word.mg D_is_word.kp D_is_word.bi dfl_nil (sa_consP (se_var 1 nm_is_column_1 vs_is_column_1 db_name cd_name) sa_nil) gl_is_column_is_word db_is_word) (se_and (se_call g_is_word ok.toXOs (hr.mono (by decide)) D_is_word.mg D_is_word.kp D_is_word.bi dfl_nil (sa_consP (se_var 2 nm_is_column_2 vs_is_column_2 db_kind cd_kind) sa_nil) gl_is_column_is_word db_is_word) (se_one (se_cmp (os_in2 ok.toXOs) (se_var 2 nm_is_column_2 vs_is_column_2 db_kind cd_kind) (se_glob (gv_of T.g_KINDS) gl_is_column_KINDS db_KINDS))))))
    exact (ss_cons h_0 (ss_cons h_1 (ss_one h_2)))
theorem ok_is_columns (T : Txt K mg G) {f : Addr} {fd : FuncData} (D : Fun K "is_columns" "is_columns" s_is_columns f fd) {f_is_column : Addr} {fd_is_column : FuncData} (D_is_column : DefA K mg "is_column" f_is_column fd_is_column ["value"]) (g_is_column : FnG P w K mg base G 2 f_is_column fd_is_column ["value"] F_is_column) : FnG P w K mg base G 3 f fd ["value"] F_is_columns :=
  fng_of (N := N_is_columns) D ⟨rfl, rfl, rfl, by decide +kernel, rfl, by decide +kernel, by decide +kernel⟩ rfl fun cd A outer s H E hr ok => by
    have h_0_a_0 : SS (cxOf (L2.CX P w) P w K mg base N_is_columns "is_columns" (defScope s_is_columns) f cd A outer s H E) G (WE E) ((subA ((defBody s_is_columns).getD 0 (.Pass ⟨0, 0, 0, 0⟩))).getD 0 (.Pass ⟨0, 0, 0, 0⟩)) r_is_columns_0_a_0 := (ss_ret se_bl)
    have h_0 : SS (cxOf (L2.CX P w) P w K mg base N_is_columns "is_columns" (defScope s_is_columns) f cd A outer s H E) G (WE E) ((defBody s_is_columns).getD 0 (.Pass ⟨0, 0, 0, 0⟩)) r_is_columns_0 := (ss_if (st_w (sw_or (st_not (st_truth (se_callB (fn_isi ist_b) T.z_isinstance (sa_consP (se_var 0 nm_is_columns_0 vs_is_columns_0 db_value cd_value) (sa_consP (se_bltn T.z_tuple bt_tuple gl_is_columns_tuple nn_tuple db_tuple) sa_nil)) gl_is_columns_isinstance bf_isinstance nn_isinstance db_isinstance))) (sw_or1 (st_not (st_chain os_le os_le se_int (se_callB fn_len2 T.z_len (sa_consP (se_var 0 nm_is_columns_0 vs_is_columns_0 db_value cd_value) sa_nil) gl_is_columns_len bf_len nn_len db_len) (se_glob (gv_of T.g_MOST_COLUMNS) gl_is_columns_MOST_COLUMNS db_MOST_COLUMNS)))))) (ss_one h_0_a_0) ss_nil)
    have h_1_a_0 : SS (cxOf (L2.CX P w) P w K mg base N_is_columns "is_columns" (defScope s_is_columns) f cd A outer s H E) G (WE E) ((subA ((defBody s_is_columns).getD 1 (.Pass ⟨0, 0, 0, 0⟩))).getD 0 (.Pass ⟨0, 0, 0, 0⟩)) r_is_columns_1_a_0 := (ss_ret se_bl)
    have h_1 : SS (cxOf (L2.CX P w) P w K mg base N_is_columns "is_columns" (defScope s_is_columns) f cd A outer s H E) G (WE E) ((defBody s_is_columns).getD 1 (.Pass ⟨0, 0, 0, 0⟩)) r_is_columns_1 := (ss_if (st_not (st_truth (se_callB (fn_all ok) T.z_all (sa_consP (se_lc [("pair", 1)] ok (si_seq (se_var 0 nm_is_columns_0 vs_is_columns_0 db_value cd_value)) (blkW (N := N_is_columns) (sc := defScope s_is_columns) (by decide +kernel)) (fun _ _ _ _ _ okb => (sg_name okb.toXOs 1 rfl)) (by rfl) (fun _ _ _ _ _ okb => sts_nil) (fun _ _ _ _ _ okb => (se_call g_is_column okb.toXOs (hr.mono (by decide)) D_is_column.mg D_is_column.kp D_is_column.bi dfl_nil (sa_consP (se_var 1 rfl) sa_nil) rfl db_is_column))) sa_nil) gl_is_columns_all bf_all nn_all db_all))) (ss_one h_1_a_0) ss_nil)
    have h_2 : SS (cxOf (L2.CX P w) P w K mg base N_is_columns "is_columns" (defScope s_is_columns) f cd A outer s H E) G (WE E) ((defBody s_is_columns).getD 2 (.Pass ⟨0, 0, 0, 0⟩)) r_is_columns_2 := (ss_ret (se_cmp (os_eq ok.toXOs) (se_callB fn_len2 T.z_len (sa_consP (se_sc [("name", 2), ("_", 3)] ok (si_seq (se_var 0 nm_is_columns_0 vs_is_columns_0 db_value cd_value)) (blkW (N := N_is_columns) (sc := defScope s_is_columns) (by decide +kernel)) (fun _ _ _ _ _ okb => (sg_tup okb (sgs_cons (sg_name okb.toXOs 2 rfl) (sgs_cons (sg_name okb.toXOs 3 rfl) sgs_nil)))) (by rfl) (fun _ _ _ _ _ okb => sts_nil) (fun _ _ _ _ _ okb => (se_var 2 rfl))) sa_nil) gl_is_columns_len bf_len nn_len db_len) (se_callB fn_len2 T.z_len (sa_consP (se_var 0 nm_is_columns_0 vs_is_columns_0 db_value cd_value) sa_nil) gl_is_columns_len bf_len nn_len db_len)))
    exact (ss_cons h_0 (ss_cons h_1 (ss_one h_2)))
theorem ok_is_of_kind (T : Txt K mg G) {f : Addr} {fd : FuncData} (D : Fun K "is_of_kind" "is_of_kind" s_is_of_kind f fd) {f_is_number : Addr} {fd_is_number : FuncData} (D_is_number : DefA K mg "is_number" f_is_number fd_is_number ["value"]) (g_is_number : FnG P w K mg base G 1 f_is_number fd_is_number ["value"] F_is_number) {f_is_word : Addr} {fd_is_word : FuncData} (D_is_word : DefA K mg "is_word" f_is_word fd_is_word ["value"]) (g_is_word : FnG P w K mg base G 1 f_is_word fd_is_word ["value"] F_is_word) : FnG P w K mg base G 2 f fd ["kind", "value"] F_is_of_kind :=
  fng_of (N := N_is_of_kind) D ⟨rfl, rfl, rfl, by decide +kernel, rfl, by decide +kernel, by decide +kernel⟩ rfl fun cd A outer s H E hr ok => by
    have h_0 : SS (cxOf (L2.CX P w) P w K mg base N_is_of_kind "is_of_kind" (defScope s_is_of_kind) f cd A outer s H E) G (WE E) ((defBody s_is_of_kind).getD 0 (.Pass ⟨0, 0, 0, 0⟩)) r_is_of_kind_0 := (ss_ret (se_ifE (st_cmp (os_eq ok.toXOs) (se_var 0 nm_is_of_kind_0 vs_is_of_kind_0 db_kind cd_kind) se_str) (se_call g_is_number ok.toXOs (hr.mono (by decide)) D_is_number.mg D_is_number.kp D_is_number.bi dfl_nil (sa_consP (se_var 1 nm_is_of_kind_1 vs_is_of_kind_1 db_value cd_value) sa_nil) gl_is_of_kind_is_number db_is_number) (se_call g_is_word ok.toXOs (hr.mono (by decide)) D_is_word.mg D_is_word.kp D_is_word.bi dfl_nil (sa_consP (se_var 1 nm_is_of_kind_1 vs_is_of_kind_1 db_value cd_value) sa_nil) gl_is_of_kind_is_word db_is_word)))
    exact (ss_one h_0)
theorem ok_fits (T : Txt K mg G) {f : Addr} {fd : FuncData} (D : Fun K "fits" "fits" s_fits f fd) {f_is_of_kind : Addr} {fd_is_of_kind : FuncData} (D_is_of_kind : DefA K mg "is_of_kind" f_is_of_kind fd_is_of_kind ["kind", "value"]) (g_is_of_kind : FnG P w K mg base G 2 f_is_of_kind fd_is_of_kind ["kind", "value"] F_is_of_kind) : FnG P w K mg base G 3 f fd ["columns", "value"] F_fits :=
  fng_of (N := N_fits) D ⟨rfl, rfl, rfl, by decide +kernel, rfl, by decide +kernel, by decide +kernel⟩ rfl fun cd A outer s H E hr ok => by
    have h_0_a_0 : SS (cxOf (L2.CX P w) P w K mg base N_fits "fits" (defScope s_fits) f cd A outer s H E) G (WE E) ((subA ((defBody s_fits).getD 0 (.Pass ⟨0, 0, 0, 0⟩))).getD 0 (.Pass ⟨0, 0, 0, 0⟩)) r_fits_0_a_0 := (ss_ret se_bl)
    have h_0 : SS (cxOf (L2.CX P w) P w K mg base N_fits "fits" (defScope s_fits) f cd A outer s H E) G (WE E) ((defBody s_fits).getD 0 (.Pass ⟨0, 0, 0, 0⟩)) r_fits_0 := (ss_if (st_w (sw_or (st_not (st_truth (se_callB (fn_isi ist_b) T.z_isinstance (sa_consP (se_var 1 nm_fits_1 vs_fits_1 db_value cd_value) (sa_consP (se_bltn T.z_tuple bt_tuple gl_fits_tuple nn_tuple db_tuple) sa_nil)) gl_fits_isinstance bf_isinstance nn_isinstance db_isinstance))) (sw_or1 (st_cmp (os_ne ok.toXOs) (se_callB fn_len2 T.z_len (sa_consP (se_var 1 nm_fits_1 vs_fits_1 db_value cd_value) sa_nil) gl_fits_len bf_len nn_len db_len) (se_callB fn_len2 T.z_len (sa_consP (se_var 0 nm_fits_0 vs_fits_0 db_columns cd_columns) sa_nil) gl_fits_len bf_len nn_len db_len))))) (ss_one h_0_a_0) ss_nil)
    have h_1 : SS (cxOf (L2.CX P w) P w K mg base N_fits "fits" (defScope s_fits) f cd A outer s H E) G (WE E) ((defBody s_fits).getD 1 (.Pass ⟨0, 0, 0, 0⟩)) r_fits_1 := (ss_ret (se_callB (fn_all ok) T.z_all (sa_consP (se_lc [("part", 2), ("_", 3), ("kind", 4)] ok (si_zip T.z_zip (sa_consP (se_var 0 nm_fits_0 vs_fits_0 db_columns cd_columns) (sa_consP (se_var 1 nm_fits_1 vs_fits_1 db_value cd_value) sa_nil))) (blkW (N := N_fits) (sc := defScope s_fits) (by decide +kernel)) (fun _ _ _ _ _ okb => (sg_tup okb (sgs_cons (sg_tup okb (sgs_cons (sg_name okb.toXOs 3 rfl) (sgs_cons (sg_name okb.toXOs 4 rfl) sgs_nil))) (sgs_cons (sg_name okb.toXOs 2 rfl) sgs_nil)))) (by rfl) (fun _ _ _ _ _ okb => sts_nil) (fun _ _ _ _ _ okb => (se_call g_is_of_kind okb.toXOs (hr.mono (by decide)) D_is_of_kind.mg D_is_of_kind.kp D_is_of_kind.bi dfl_nil (sa_consP (se_var 4 rfl) (sa_consP (se_var 2 rfl) sa_nil)) rfl db_is_of_kind))) sa_nil) gl_fits_all bf_all nn_all db_all))
    exact (ss_cons h_0 (ss_one h_1))
theorem ok_is_row (T : Txt K mg G) {f : Addr} {fd : FuncData} (D : Fun K "is_row" "is_row" s_is_row f fd) {f_is_columns : Addr} {fd_is_columns : FuncData} (D_is_columns : DefA K mg "is_columns" f_is_columns fd_is_columns ["value"]) (g_is_columns : FnG P w K mg base G 3 f_is_columns fd_is_columns ["value"] F_is_columns) {f_InvalidColumns : Addr} {fd_InvalidColumns : FuncData} (E_InvalidColumns : ExD P w K mg base G 1 "InvalidColumns" "self" "value" f_InvalidColumns fd_InvalidColumns) {f_fits : Addr} {fd_fits : FuncData} (D_fits : DefA K mg "fits" f_fits fd_fits ["columns", "value"]) (g_fits : FnG P w K mg base G 3 f_fits fd_fits ["columns", "value"] F_fits) : FnG P w K mg base G 4 f fd ["columns", "value"] F_is_row :=
  fng_of (N := N_is_row) D ⟨rfl, rfl, rfl, by decide +kernel, rfl, by decide +kernel, by decide +kernel⟩ rfl fun cd A outer s H E hr ok => by
    have h_0_a_0 : SS (cxOf (L2.CX P w) P w K mg base N_is_row "is_row" (defScope s_is_row) f cd A outer s H E) G (WE E) ((subA ((defBody s_is_row).getD 0 (.Pass ⟨0, 0, 0, 0⟩))).getD 0 (.Pass ⟨0, 0, 0, 0⟩)) r_is_row_0_a_0 := (ss_raise E_InvalidColumns.T E_InvalidColumns.iC E_InvalidColumns.tI E_InvalidColumns.F1 ok (hr.mono (by decide)) E_InvalidColumns.bi E_InvalidColumns.mg E_InvalidColumns.no (sa_consP (se_var 0 nm_is_row_0 vs_is_row_0 db_columns cd_columns) sa_nil))
    have h_0 : SS (cxOf (L2.CX P w) P w K mg base N_is_row "is_row" (defScope s_is_row) f cd A outer s H E) G (WE E) ((defBody s_is_row).getD 0 (.Pass ⟨0, 0, 0, 0⟩)) r_is_row_0 := (ss_if (st_not (st_truth (se_call g_is_columns ok.toXOs (hr.mono (by decide)) D_is_columns.mg D_is_columns.kp D_is_columns.bi dfl_nil (sa_consP (se_var 0 nm_is_row_0 vs_is_row_0 db_columns cd_columns) sa_nil) gl_is_row_is_columns db_is_columns))) (ss_one h_0_a_0) ss_nil)
    have h_1 : SS (cxOf (L2.CX P w) P w K mg base N_is_row "is_row" (defScope s_is_row) f cd A outer s H E) G (WE E) ((defBody s_is_row).getD 1 (.Pass ⟨0, 0, 0, 0⟩)) r_is_row_1 := (ss_ret (se_call g_fits ok.toXOs (hr.mono (by decide)) D_fits.mg D_fits.kp D_fits.bi dfl_nil (sa_consP (se_var 0 nm_is_row_0 vs_is_row_0 db_columns cd_columns) (sa_consP (se_var 1 nm_is_row_1 vs_is_row_1 db_value cd_value) sa_nil)) gl_is_row_fits db_fits))
    exact (ss_cons h_0 (ss_one h_1))
theorem ok__law_pool (T : Txt K mg G) {f : Addr} {fd : FuncData} (D : Fun K "_law_pool" "_law_pool" s__law_pool f fd) : FnG P w K mg base G 1 f fd ["_law_script", "_law_k"] F__law_pool :=
  fng_of (N := N__law_pool) D ⟨rfl, rfl, rfl, by decide +kernel, rfl, by decide +kernel, by decide +kernel⟩ rfl fun cd A outer s H E hr ok => by
    have h_0 : SS (cxOf (L2.CX P w) P w K mg base N__law_pool "_law_pool" (defScope s__law_pool) f cd A outer s H E) G (WE E) ((defBody s__law_pool).getD 0 (.Pass ⟨0, 0, 0, 0⟩)) r__law_pool_0 := (ss_asg se_int (sg_name ok.toXOs 2 nm__law_pool_2 lc__law_pool_2 (.inl rfl)))
    have h_1_a_0 : SS (cxOf (L2.CX P w) P w K mg base N__law_pool "_law_pool" (defScope s__law_pool) f cd A outer s H E) G (WE E) ((subA ((defBody s__law_pool).getD 1 (.Pass ⟨0, 0, 0, 0⟩))).getD 0 (.Pass ⟨0, 0, 0, 0⟩)) r__law_pool_1_a_0 := (ss_asg (se_ix (se_var 0 nm__law_pool_0 vs__law_pool_0 db__law_script cd__law_script) (se_var 1 nm__law_pool_1 vs__law_pool_1 db__law_k cd__law_k)) (sg_name ok.toXOs 2 nm__law_pool_2 lc__law_pool_2 (.inl rfl)))
    have h_1 : SS (cxOf (L2.CX P w) P w K mg base N__law_pool "_law_pool" (defScope s__law_pool) f cd A outer s H E) G (WE E) ((defBody s__law_pool).getD 1 (.Pass ⟨0, 0, 0, 0⟩)) r__law_pool_1 := (ss_if (st_cmp os_lt (se_var 1 nm__law_pool_1 vs__law_pool_1 db__law_k cd__law_k) (se_callB fn_len2 T.z_len (sa_consP (se_var 0 nm__law_pool_0 vs__law_pool_0 db__law_script cd__law_script) sa_nil) gl__law_pool_len bf_len nn_len db_len)) (ss_one h_1_a_0) ss_nil)
    have h_2 : SS (cxOf (L2.CX P w) P w K mg base N__law_pool "_law_pool" (defScope s__law_pool) f cd A outer s H E) G (WE E) ((defBody s__law_pool).getD 2 (.Pass ⟨0, 0, 0, 0⟩)) r__law_pool_2 := (ss_asg (se_callB fn_abs T.z_abs (sa_consP (se_var 2 nm__law_pool_2 vs__law_pool_2 db__law_cell cd__law_cell) sa_nil) gl__law_pool_abs bf_abs nn_abs db_abs) (sg_name ok.toXOs 3 nm__law_pool_3 lc__law_pool_3 (.inl rfl)))
    have h_3 : SS (cxOf (L2.CX P w) P w K mg base N__law_pool "_law_pool" (defScope s__law_pool) f cd A outer s H E) G (WE E) ((defBody s__law_pool).getD 3 (.Pass ⟨0, 0, 0, 0⟩)) r__law_pool_3 := (ss_asg (se_bin os_mod (se_bin os_mul (se_bin os_add (se_bin os_mod (se_var 2 nm__law_pool_2 vs__law_pool_2 db__law_cell cd__law_cell) se_int) (se_bin os_mul se_int (se_bin os_add (se_var 1 nm__law_pool_1 vs__law_pool_1 db__law_k cd__law_k) se_int))) (se_bin os_add (se_var 1 nm__law_pool_1 vs__law_pool_1 db__law_k cd__law_k) se_int)) se_int) (sg_name ok.toXOs 4 nm__law_pool_4 lc__law_pool_4 (.inl rfl)))
    have h_4 : SS (cxOf (L2.CX P w) P w K mg base N__law_pool "_law_pool" (defScope s__law_pool) f cd A outer s H E) G (WE E) ((defBody s__law_pool).getD 4 (.Pass ⟨0, 0, 0, 0⟩)) r__law_pool_4 := (ss_asg (se_bin os_mod (se_bin os_mul (se_bin os_mod (se_bin os_mul (se_var 4 nm__law_pool_4 vs__law_pool_4 db__law_blend cd__law_blend) (se_var 4 nm__law_pool_4 vs__law_pool_4 db__law_blend cd__law_blend)) se_int) se_int) se_int) (sg_name ok.toXOs 5 nm__law_pool_5 lc__law_pool_5 (.inl rfl)))
    have h_5 : SS (cxOf (L2.CX P w) P w K mg base N__law_pool "_law_pool" (defScope s__law_pool) f cd A outer s H E) G (WE E) ((defBody s__law_pool).getD 5 (.Pass ⟨0, 0, 0, 0⟩)) r__law_pool_5 := (ss_ret (se_lst (sa_consP (se_bin os_mul (se_var 3 nm__law_pool_3 vs__law_pool_3 db__law_heavy cd__law_heavy) (se_callT fn_int T.z_int (sa_consP (se_cmp os_ge (se_var 3 nm__law_pool_3 vs__law_pool_3 db__law_heavy cd__law_heavy) (se_bin os_pow se_int se_int)) sa_nil) gl__law_pool_int bf_int nn_int db_int)) (sa_consP (se_var 5 nm__law_pool_5 vs__law_pool_5 db__law_seed cd__law_seed) sa_nil))))
    exact (ss_cons h_0 (ss_cons h_1 (ss_cons h_2 (ss_cons h_3 (ss_cons h_4 (ss_one h_5))))))
theorem ok__law_take (T : Txt K mg G) {f : Addr} {fd : FuncData} (D : Fun K "_law_take" "_law_take" s__law_take f fd) : FnG P w K mg base G 1 f fd ["_law_pool_here", "_law_wide"] F__law_take :=
  fng_of (N := N__law_take) D ⟨rfl, rfl, rfl, by decide +kernel, rfl, by decide +kernel, by decide +kernel⟩ rfl fun cd A outer s H E hr ok => by
    have h_0_a_0 : SS (cxOf (L2.CX P w) P w K mg base N__law_take "_law_take" (defScope s__law_take) f cd A outer s H E) G (WE E) ((subA ((defBody s__law_take).getD 0 (.Pass ⟨0, 0, 0, 0⟩))).getD 0 (.Pass ⟨0, 0, 0, 0⟩)) r__law_take_0_a_0 := (ss_asg (se_bin os_mod (se_ix (se_var 0 nm__law_take_0 vs__law_take_0 db__law_pool_here cd__law_pool_here) se_int) (se_var 1 nm__law_take_1 vs__law_take_1 db__law_wide cd__law_wide)) (sg_name ok.toXOs 2 nm__law_take_2 lc__law_take_2 (.inl rfl)))
    have h_0_a_1 : SS (cxOf (L2.CX P w) P w K mg base N__law_take "_law_take" (defScope s__law_take) f cd A outer s H E) G (WE E) ((subA ((defBody s__law_take).getD 0 (.Pass ⟨0, 0, 0, 0⟩))).getD 1 (.Pass ⟨0, 0, 0, 0⟩)) r__law_take_0_a_1 := (ss_setIx (se_var 0 nm__law_take_0 vs__law_take_0 db__law_pool_here cd__law_pool_here) se_int (se_bin os_div (se_ix (se_var 0 nm__law_take_0 vs__law_take_0 db__law_pool_here cd__law_pool_here) se_int) (se_var 1 nm__law_take_1 vs__law_take_1 db__law_wide cd__law_wide)))
    have h_0_a_2 : SS (cxOf (L2.CX P w) P w K mg base N__law_take "_law_take" (defScope s__law_take) f cd A outer s H E) G (WE E) ((subA ((defBody s__law_take).getD 0 (.Pass ⟨0, 0, 0, 0⟩))).getD 2 (.Pass ⟨0, 0, 0, 0⟩)) r__law_take_0_a_2 := (ss_ret (se_var 2 nm__law_take_2 vs__law_take_2 db__law_result cd__law_result))
    have h_0 : SS (cxOf (L2.CX P w) P w K mg base N__law_take "_law_take" (defScope s__law_take) f cd A outer s H E) G (WE E) ((defBody s__law_take).getD 0 (.Pass ⟨0, 0, 0, 0⟩)) r__law_take_0 := (ss_if (st_cmp os_gt (se_ix (se_var 0 nm__law_take_0 vs__law_take_0 db__law_pool_here cd__law_pool_here) se_int) se_int) (ss_cons h_0_a_0 (ss_cons h_0_a_1 (ss_one h_0_a_2))) ss_nil)
    have h_1 : SS (cxOf (L2.CX P w) P w K mg base N__law_take "_law_take" (defScope s__law_take) f cd A outer s H E) G (WE E) ((defBody s__law_take).getD 1 (.Pass ⟨0, 0, 0, 0⟩)) r__law_take_1 := (ss_setIx (se_var 0 nm__law_take_0 vs__law_take_0 db__law_pool_here cd__law_pool_here) se_int (se_bin os_mod (se_bin os_add (se_bin os_mul (se_ix (se_var 0 nm__law_take_0 vs__law_take_0 db__law_pool_here cd__law_pool_here) se_int) se_int) se_int) se_int))
    have h_2 : SS (cxOf (L2.CX P w) P w K mg base N__law_take "_law_take" (defScope s__law_take) f cd A outer s H E) G (WE E) ((defBody s__law_take).getD 2 (.Pass ⟨0, 0, 0, 0⟩)) r__law_take_2 := (ss_ret (se_bin os_mod (se_bin os_div (se_bin os_mod (se_bin os_mul (se_ix (se_var 0 nm__law_take_0 vs__law_take_0 db__law_pool_here cd__law_pool_here) se_int) (se_ix (se_var 0 nm__law_take_0 vs__law_take_0 db__law_pool_here cd__law_pool_here) se_int)) se_int) se_int) (se_var 1 nm__law_take_1 vs__law_take_1 db__law_wide cd__law_wide)))
    exact (ss_cons h_0 (ss_cons h_1 (ss_one h_2)))
theorem ok__law_is_word (T : Txt K mg G) {f : Addr} {fd : FuncData} (D : Fun K "_law_is_word" "_law_is_word" s__law_is_word f fd) : FnG P w K mg base G 1 f fd ["_law_value"] F__law_is_word :=
  fng_of (N := N__law_is_word) D ⟨rfl, rfl, rfl, by decide +kernel, rfl, by decide +kernel, by decide +kernel⟩ rfl fun cd A outer s H E hr ok => by
    have h_0_a_0 : SS (cxOf (L2.CX P w) P w K mg base N__law_is_word "_law_is_word" (defScope s__law_is_word) f cd A outer s H E) G (WE E) ((subA ((defBody s__law_is_word).getD 0 (.Pass ⟨0, 0, 0, 0⟩))).getD 0 (.Pass ⟨0, 0, 0, 0⟩)) r__law_is_word_0_a_0 := (ss_ret se_bl)
    have h_0 : SS (cxOf (L2.CX P w) P w K mg base N__law_is_word "_law_is_word" (defScope s__law_is_word) f cd A outer s H E) G (WE E) ((defBody s__law_is_word).getD 0 (.Pass ⟨0, 0, 0, 0⟩)) r__law_is_word_0 := (ss_if (st_w (sw_or (st_not (st_truth (se_callB (fn_isi ist_b) T.z_isinstance (sa_consP (se_var 0 nm__law_is_word_0 vs__law_is_word_0 db__law_value cd__law_value) (sa_consP (se_bltn T.z_str bt_str gl__law_is_word_str nn_str db_str) sa_nil)) gl__law_is_word_isinstance bf_isinstance nn_isinstance db_isinstance))) (sw_or1 (st_cmp (os_eq ok.toXOs) (se_var 0 nm__law_is_word_0 vs__law_is_word_0 db__law_value cd__law_value) se_str)))) (ss_one h_0_a_0) ss_nil)
    have h_1 : SS (cxOf (L2.CX P w) P w K mg base N__law_is_word "_law_is_word" (defScope s__law_is_word) f cd A outer s H E) G (WE E) ((defBody s__law_is_word).getD 1 (.Pass ⟨0, 0, 0, 0⟩)) r__law_is_word_1 := (ss_ret (se_cmp (os_eq ok.toXOs) (se_lc [("_law_sign", 1)] ok (si_seq (se_var 0 nm__law_is_word_0 vs__law_is_word_0 db__law_value cd__law_value)) (blkW (N := N__law_is_word) (sc := defScope s__law_is_word) (by decide +kernel)) (fun _ _ _ _ _ okb => (sg_name okb.toXOs 1 rfl)) (by rfl) (fun _ _ _ _ _ okb => (sts_one (st_cmp (os_notin2 okb.toXOs) (se_var 1 rfl) se_str))) (fun _ _ _ _ _ okb => (se_var 1 rfl))) (se_lst sa_nil)))
    exact (ss_cons h_0 (ss_one h_1))
theorem ok__law_is_number (T : Txt K mg G) {f : Addr} {fd : FuncData} (D : Fun K "_law_is_number" "_law_is_number" s__law_is_number f fd) : FnG P w K mg base G 1 f fd ["_law_value"] F__law_is_number :=
  fng_of (N := N__law_is_number) D ⟨rfl, rfl, rfl, by decide +kernel, rfl, by decide +kernel, by decide +kernel⟩ rfl fun cd A outer s H E hr ok => by
    have h_0 : SS (cxOf (L2.CX P w) P w K mg base N__law_is_number "_law_is_number" (defScope s__law_is_number) f cd A outer s H E) G (WE E) ((defBody s__law_is_number).getD 0 (.Pass ⟨0, 0, 0, 0⟩)) r__law_is_number_0 := (ss_ret (se_and (se_callB (fn_isi ist_b) T.z_isinstance (sa_consP (se_var 0 nm__law_is_number_0 vs__law_is_number_0 db__law_value cd__law_value) (sa_consP (se_bltn T.z_int bt_int gl__law_is_number_int nn_int db_int) sa_nil)) gl__law_is_number_isinstance bf_isinstance nn_isinstance db_isinstance) (se_and (se_not (se_callB (fn_isi ist_b) T.z_isinstance (sa_consP (se_var 0 nm__law_is_number_0 vs__law_is_number_0 db__law_value cd__law_value) (sa_consP (se_bltn T.z_bool bt_bool gl__law_is_number_bool nn_bool db_bool) sa_nil)) gl__law_is_number_isinstance bf_isinstance nn_isinstance db_isinstance)) (se_one (se_cmp os_ge (se_var 0 nm__law_is_number_0 vs__law_is_number_0 db__law_value cd__law_value) se_int)))))
    exact (ss_one h_0)
theorem ok__law_due (T : Txt K mg G) {f : Addr} {fd : FuncData} (D : Fun K "_law_due" "_law_due" s__law_due f fd) {f__law_is_word : Addr} {fd__law_is_word : FuncData} (D__law_is_word : DefA K mg "_law_is_word" f__law_is_word fd__law_is_word ["_law_value"]) (g__law_is_word : FnG P w K mg base G 1 f__law_is_word fd__law_is_word ["_law_value"] F__law_is_word) : FnG P w K mg base G 2 f fd ["_law_value"] F__law_due :=
  fng_of (N := N__law_due) D ⟨rfl, rfl, rfl, by decide +kernel, rfl, by decide +kernel, by decide +kernel⟩ rfl fun cd A outer s H E hr ok => by
    have h_0_a_0 : SS (cxOf (L2.CX P w) P w K mg base N__law_due "_law_due" (defScope s__law_due) f cd A outer s H E) G (WE E) ((subA ((defBody s__law_due).getD 0 (.Pass ⟨0, 0, 0, 0⟩))).getD 0 (.Pass ⟨0, 0, 0, 0⟩)) r__law_due_0_a_0 := (ss_ret se_bl)
    have h_0 : SS (cxOf (L2.CX P w) P w K mg base N__law_due "_law_due" (defScope s__law_due) f cd A outer s H E) G (WE E) ((defBody s__law_due).getD 0 (.Pass ⟨0, 0, 0, 0⟩)) r__law_due_0 := (ss_if (st_w (sw_or (st_not (st_truth (se_callB (fn_isi ist_b) T.z_isinstance (sa_consP (se_var 0 nm__law_due_0 vs__law_due_0 db__law_value cd__law_value) (sa_consP (se_bltn T.z_tuple bt_tuple gl__law_due_tuple nn_tuple db_tuple) sa_nil)) gl__law_due_isinstance bf_isinstance nn_isinstance db_isinstance))) (sw_or1 (st_cmp (os_notin2 ok.toXOs) (se_callB fn_len2 T.z_len (sa_consP (se_var 0 nm__law_due_0 vs__law_due_0 db__law_value cd__law_value) sa_nil) gl__law_due_len bf_len nn_len db_len) (se_callT fn_rng T.z_range (sa_consP se_int (sa_consP se_int sa_nil)) gl__law_due_range bf_range nn_range db_range))))) (ss_one h_0_a_0) ss_nil)
    have h_1 : SS (cxOf (L2.CX P w) P w K mg base N__law_due "_law_due" (defScope s__law_due) f cd A outer s H E) G (WE E) ((defBody s__law_due).getD 1 (.Pass ⟨0, 0, 0, 0⟩)) r__law_due_1 := (ss_asg (se_lst sa_nil) (sg_name ok.toXOs 1 nm__law_due_1 lc__law_due_1 (.inl rfl)))
    have h_2_a_0_a_0 : SS (cxOf (L2.CX P w) P w K mg base N__law_due "_law_due" (defScope s__law_due) f cd A outer s H E) G (WE E) ((subA ((subA ((defBody s__law_due).getD 2 (.Pass ⟨0, 0, 0, 0⟩))).getD 0 (.Pass ⟨0, 0, 0, 0⟩))).getD 0 (.Pass ⟨0, 0, 0, 0⟩)) r__law_due_2_a_0_a_0 := (ss_ret se_bl)
    have h_2_a_0 : SS (cxOf (L2.CX P w) P w K mg base N__law_due "_law_due" (defScope s__law_due) f cd A outer s H E) G (WE E) ((subA ((defBody s__law_due).getD 2 (.Pass ⟨0, 0, 0, 0⟩))).getD 0 (.Pass ⟨0, 0, 0, 0⟩)) r__law_due_2_a_0 := (ss_if (st_w (sw_or (st_not (st_truth (se_callB (fn_isi ist_b) T.z_isinstance (sa_consP (se_var 2 nm__law_due_2 vs__law_due_2 db__law_one cd__law_one) (sa_consP (se_bltn T.z_tuple bt_tuple gl__law_due_tuple nn_tuple db_tuple) sa_nil)) gl__law_due_isinstance bf_isinstance nn_isinstance db_isinstance))) (sw_or (st_cmp (os_ne ok.toXOs) (se_callB fn_len2 T.z_len (sa_consP (se_var 2 nm__law_due_2 vs__law_due_2 db__law_one cd__law_one) sa_nil) gl__law_due_len bf_len nn_len db_len) se_int) (sw_or (st_not (st_truth (se_call g__law_is_word ok.toXOs (hr.mono (by decide)) D__law_is_word.mg D__law_is_word.kp D__law_is_word.bi dfl_nil (sa_consP (se_ix (se_var 2 nm__law_due_2 vs__law_due_2 db__law_one cd__law_one) se_int) sa_nil) gl__law_due__law_is_word db__law_is_word))) (sw_or1 (st_cmp (os_in2 ok.toXOs) (se_ix (se_var 2 nm__law_due_2 vs__law_due_2 db__law_one cd__law_one) se_int) (se_var 1 nm__law_due_1 vs__law_due_1 db__law_names cd__law_names))))))) (ss_one h_2_a_0_a_0) ss_nil)
    have h_2_a_1_a_0 : SS (cxOf (L2.CX P w) P w K mg base N__law_due "_law_due" (defScope s__law_due) f cd A outer s H E) G (WE E) ((subA ((subA ((defBody s__law_due).getD 2 (.Pass ⟨0, 0, 0, 0⟩))).getD 1 (.Pass ⟨0, 0, 0, 0⟩))).getD 0 (.Pass ⟨0, 0, 0, 0⟩)) r__law_due_2_a_1_a_0 := (ss_ret se_bl)
    have h_2_a_1 : SS (cxOf (L2.CX P w) P w K mg base N__law_due "_law_due" (defScope s__law_due) f cd A outer s H E) G (WE E) ((subA ((defBody s__law_due).getD 2 (.Pass ⟨0, 0, 0, 0⟩))).getD 1 (.Pass ⟨0, 0, 0, 0⟩)) r__law_due_2_a_1 := (ss_if (st_w (sw_or (st_not (st_truth (se_callB (fn_isi ist_b) T.z_isinstance (sa_consP (se_ix (se_var 2 nm__law_due_2 vs__law_due_2 db__law_one cd__law_one) se_int) (sa_consP (se_bltn T.z_str bt_str gl__law_due_str nn_str db_str) sa_nil)) gl__law_due_isinstance bf_isinstance nn_isinstance db_isinstance))) (sw_or1 (st_cmp (os_notin2 ok.toXOs) (se_ix (se_var 2 nm__law_due_2 vs__law_due_2 db__law_one cd__law_one) se_int) (se_lst (sa_consP se_str (sa_consP se_str sa_nil))))))) (ss_one h_2_a_1_a_0) ss_nil)
    have h_2_a_2 : SS (cxOf (L2.CX P w) P w K mg base N__law_due "_law_due" (defScope s__law_due) f cd A outer s H E) G (WE E) ((subA ((defBody s__law_due).getD 2 (.Pass ⟨0, 0, 0, 0⟩))).getD 2 (.Pass ⟨0, 0, 0, 0⟩)) r__law_due_2_a_2 := (ss_expr (se_bm mt_appendS PySem.F.plainAttrs_list PySem.F.slot_list_append PySem.F.type_list_append (se_var 1 nm__law_due_1 vs__law_due_1 db__law_names cd__law_names) (sa_consP (se_ix (se_var 2 nm__law_due_2 vs__law_due_2 db__law_one cd__law_one) se_int) sa_nil)))
    have h_2 : SS (cxOf (L2.CX P w) P w K mg base N__law_due "_law_due" (defScope s__law_due) f cd A outer s H E) G (WE E) ((defBody s__law_due).getD 2 (.Pass ⟨0, 0, 0, 0⟩)) r__law_due_2 := (ss_for ok (si_seq (se_var 0 nm__law_due_0 vs__law_due_0 db__law_value cd__law_value)) (sg_name ok.toXOs 2 nm__law_due_2 lc__law_due_2 (.inl rfl)) (ss_cons h_2_a_0 (ss_cons h_2_a_1 (ss_one h_2_a_2))))
    have h_3 : SS (cxOf (L2.CX P w) P w K mg base N__law_due "_law_due" (defScope s__law_due) f cd A outer s H E) G (WE E) ((defBody s__law_due).getD 3 (.Pass ⟨0, 0, 0, 0⟩)) r__law_due_3 := (ss_ret se_bl)
    exact (ss_cons h_0 (ss_cons h_1 (ss_cons h_2 (ss_one h_3))))
theorem ok__law_row_due (T : Txt K mg G) {f : Addr} {fd : FuncData} (D : Fun K "_law_row_due" "_law_row_due" s__law_row_due f fd) {f__law_is_word : Addr} {fd__law_is_word : FuncData} (D__law_is_word : DefA K mg "_law_is_word" f__law_is_word fd__law_is_word ["_law_value"]) (g__law_is_word : FnG P w K mg base G 1 f__law_is_word fd__law_is_word ["_law_value"] F__law_is_word) {f__law_is_number : Addr} {fd__law_is_number : FuncData} (D__law_is_number : DefA K mg "_law_is_number" f__law_is_number fd__law_is_number ["_law_value"]) (g__law_is_number : FnG P w K mg base G 1 f__law_is_number fd__law_is_number ["_law_value"] F__law_is_number) : FnG P w K mg base G 2 f fd ["_law_heads", "_law_row"] F__law_row_due :=
  fng_of (N := N__law_row_due) D ⟨rfl, rfl, rfl, by decide +kernel, rfl, by decide +kernel, by decide +kernel⟩ rfl fun cd A outer s H E hr ok => by
    have h_0_a_0 : SS (cxOf (L2.CX P w) P w K mg base N__law_row_due "_law_row_due" (defScope s__law_row_due) f cd A outer s H E) G (WE E) ((subA ((defBody s__law_row_due).getD 0 (.Pass ⟨0, 0, 0, 0⟩))).getD 0 (.Pass ⟨0, 0, 0, 0⟩)) r__law_row_due_0_a_0 := (ss_ret se_bl)
    have h_0 : SS (cxOf (L2.CX P w) P w K mg base N__law_row_due "_law_row_due" (defScope s__law_row_due) f cd A outer s H E) G (WE E) ((defBody s__law_row_due).getD 0 (.Pass ⟨0, 0, 0, 0⟩)) r__law_row_due_0 := (ss_if (st_w (sw_or (st_not (st_truth (se_callB (fn_isi ist_b) T.z_isinstance (sa_consP (se_var 1 nm__law_row_due_1 vs__law_row_due_1 db__law_row cd__law_row) (sa_consP (se_bltn T.z_tuple bt_tuple gl__law_row_due_tuple nn_tuple db_tuple) sa_nil)) gl__law_row_due_isinstance bf_isinstance nn_isinstance db_isinstance))) (sw_or1 (st_cmp (os_ne ok.toXOs) (se_callB fn_len2 T.z_len (sa_consP (se_var 1 nm__law_row_due_1 vs__law_row_due_1 db__law_row cd__law_row) sa_nil) gl__law_row_due_len bf_len nn_len db_len) (se_callB fn_len2 T.z_len (sa_consP (se_var 0 nm__law_row_due_0 vs__law_row_due_0 db__law_heads cd__law_heads) sa_nil) gl__law_row_due_len bf_len nn_len db_len))))) (ss_one h_0_a_0) ss_nil)
    have h_1_a_0_a_0 : SS (cxOf (L2.CX P w) P w K mg base N__law_row_due "_law_row_due" (defScope s__law_row_due) f cd A outer s H E) G (WE E) ((subA ((subA ((defBody s__law_row_due).getD 1 (.Pass ⟨0, 0, 0, 0⟩))).getD 0 (.Pass ⟨0, 0, 0, 0⟩))).getD 0 (.Pass ⟨0, 0, 0, 0⟩)) r__law_row_due_1_a_0_a_0 := (ss_ret se_bl)
    have h_1_a_0 : SS (cxOf (L2.CX P w) P w K mg base N__law_row_due "_law_row_due" (defScope s__law_row_due) f cd A outer s H E) G (WE E) ((subA ((defBody s__law_row_due).getD 1 (.Pass ⟨0, 0, 0, 0⟩))).getD 0 (.Pass ⟨0, 0, 0, 0⟩)) r__law_row_due_1_a_0 := (ss_if (st_not (st_truth (se_ix (se_lst (sa_consP (se_call g__law_is_word ok.toXOs (hr.mono (by decide)) D__law_is_word.mg D__law_is_word.kp D__law_is_word.bi dfl_nil (sa_consP (se_ix (se_var 1 nm__law_row_due_1 vs__law_row_due_1 db__law_row cd__law_row) (se_var 2 nm__law_row_due_2 vs__law_row_due_2 db__law_at cd__law_at)) sa_nil) gl__law_row_due__law_is_word db__law_is_word) (sa_consP (se_call g__law_is_number ok.toXOs (hr.mono (by decide)) D__law_is_number.mg D__law_is_number.kp D__law_is_number.bi dfl_nil (sa_consP (se_ix (se_var 1 nm__law_row_due_1 vs__law_row_due_1 db__law_row cd__law_row) (se_var 2 nm__law_row_due_2 vs__law_row_due_2 db__law_at cd__law_at)) sa_nil) gl__law_row_due__law_is_number db__law_is_number) sa_nil))) (se_callT fn_int T.z_int (sa_consP (se_cmp (os_eq ok.toXOs) (se_ix (se_var 3 nm__law_row_due_3 vs__law_row_due_3 db__law_head cd__law_head) se_int) se_str) sa_nil) gl__law_row_due_int bf_int nn_int db_int)))) (ss_one h_1_a_0_a_0) ss_nil)
    have h_1 : SS (cxOf (L2.CX P w) P w K mg base N__law_row_due "_law_row_due" (defScope s__law_row_due) f cd A outer s H E) G (WE E) ((defBody s__law_row_due).getD 1 (.Pass ⟨0, 0, 0, 0⟩)) r__law_row_due_1 := (ss_for ok (si_enum2 T.z_enumerate (sa_consP (se_var 0 nm__law_row_due_0 vs__law_row_due_0 db__law_heads cd__law_heads) sa_nil)) (sg_tup ok (sgs_cons (sg_name ok.toXOs 2 nm__law_row_due_2 lc__law_row_due_2 (.inl rfl)) (sgs_cons (sg_name ok.toXOs 3 nm__law_row_due_3 lc__law_row_due_3 (.inl rfl)) sgs_nil))) (ss_one h_1_a_0))
    have h_2 : SS (cxOf (L2.CX P w) P w K mg base N__law_row_due "_law_row_due" (defScope s__law_row_due) f cd A outer s H E) G (WE E) ((defBody s__law_row_due).getD 2 (.Pass ⟨0, 0, 0, 0⟩)) r__law_row_due_2 := (ss_ret se_bl)
    exact (ss_cons h_0 (ss_cons h_1 (ss_one h_2)))
theorem ok__law_heard (T : Txt K mg G) {f : Addr} {fd : FuncData} (D : Fun K "_law_heard" "_law_heard" s__law_heard f fd) {f_is_row : Addr} {fd_is_row : FuncData} (D_is_row : DefA K mg "is_row" f_is_row fd_is_row ["columns", "value"]) (g_is_row : FnG P w K mg base G 4 f_is_row fd_is_row ["columns", "value"] F_is_row) : FnG P w K mg base G 5 f fd ["_law_value"] F__law_heard :=
  fng_of (N := N__law_heard) D ⟨rfl, rfl, rfl, by decide +kernel, rfl, by decide +kernel, by decide +kernel⟩ rfl fun cd A outer s H E hr ok => by
    have h_0 : SS (cxOf (L2.CX P w) P w K mg base N__law_heard "_law_heard" (defScope s__law_heard) f cd A outer s H E) G (WE E) ((defBody s__law_heard).getD 0 (.Pass ⟨0, 0, 0, 0⟩)) r__law_heard_0 := (ss_try T.exm ok (fun _ _ _ ok => (ss_one (ss_expr (se_call g_is_row ok.toXOs (hr.mono (by decide)) D_is_row.mg D_is_row.kp D_is_row.bi dfl_nil (sa_consP (se_var 0 nm__law_heard_0 vs__law_heard_0 db__law_value cd__law_value) (sa_consP se_non sa_nil)) gl__law_heard_is_row db_is_row)))) (.cons (k := .c 1) (i := (some 1)) ⟨rfl, by decide, .inl T.mg_InvalidColumns⟩ ⟨rfl, rfl⟩ (fun _ _ oks => (ss_one (ss_ret (se_callB (fn_repr2 oks) T.z_repr (sa_consP (se_xf T.xf_value (se_var 1 rfl)) sa_nil) rfl bf_repr nn_repr db_repr)))) (.cons (k := .c 0) (i := none) ⟨rfl, by decide, .inl T.mg_StreamError⟩ trivial (fun _ _ oks => (ss_one (ss_ret se_str))) .nil)))
    have h_1 : SS (cxOf (L2.CX P w) P w K mg base N__law_heard "_law_heard" (defScope s__law_heard) f cd A outer s H E) G (WE E) ((defBody s__law_heard).getD 1 (.Pass ⟨0, 0, 0, 0⟩)) r__law_heard_1 := (ss_ret se_str)
    exact (ss_cons h_0 (ss_one h_1))
theorem ok_law (T : Txt K mg G) {f : Addr} {fd : FuncData} (D : Fun K "law" "law" s_law f fd) {f__law_pool : Addr} {fd__law_pool : FuncData} (D__law_pool : DefA K mg "_law_pool" f__law_pool fd__law_pool ["_law_script", "_law_k"]) (g__law_pool : FnG P w K mg base G 1 f__law_pool fd__law_pool ["_law_script", "_law_k"] F__law_pool) {f_is_word : Addr} {fd_is_word : FuncData} (D_is_word : DefA K mg "is_word" f_is_word fd_is_word ["value"]) (g_is_word : FnG P w K mg base G 1 f_is_word fd_is_word ["value"] F_is_word) {f__law_is_word : Addr} {fd__law_is_word : FuncData} (D__law_is_word : DefA K mg "_law_is_word" f__law_is_word fd__law_is_word ["_law_value"]) (g__law_is_word : FnG P w K mg base G 1 f__law_is_word fd__law_is_word ["_law_value"] F__law_is_word) {f__law_take : Addr} {fd__law_take : FuncData} (D__law_take : DefA K mg "_law_take" f__law_take fd__law_take ["_law_pool_here", "_law_wide"]) (g__law_take : FnG P w K mg base G 1 f__law_take fd__law_take ["_law_pool_here", "_law_wide"] F__law_take) {f_is_columns : Addr} {fd_is_columns : FuncData} (D_is_columns : DefA K mg "is_columns" f_is_columns fd_is_columns ["value"]) (g_is_columns : FnG P w K mg base G 3 f_is_columns fd_is_columns ["value"] F_is_columns) {f__law_due : Addr} {fd__law_due : FuncData} (D__law_due : DefA K mg "_law_due" f__law_due fd__law_due ["_law_value"]) (g__law_due : FnG P w K mg base G 2 f__law_due fd__law_due ["_law_value"] F__law_due) {f__law_heard : Addr} {fd__law_heard : FuncData} (D__law_heard : DefA K mg "_law_heard" f__law_heard fd__law_heard ["_law_value"]) (g__law_heard : FnG P w K mg base G 5 f__law_heard fd__law_heard ["_law_value"] F__law_heard) {f_is_row : Addr} {fd_is_row : FuncData} (D_is_row : DefA K mg "is_row" f_is_row fd_is_row ["columns", "value"]) (g_is_row : FnG P w K mg base G 4 f_is_row fd_is_row ["columns", "value"] F_is_row) {f__law_row_due : Addr} {fd__law_row_due : FuncData} (D__law_row_due : DefA K mg "_law_row_due" f__law_row_due fd__law_row_due ["_law_heads", "_law_row"]) (g__law_row_due : FnG P w K mg base G 2 f__law_row_due fd__law_row_due ["_law_heads", "_law_row"] F__law_row_due) : FnG P w K mg base G 6 f fd ["_law_script"] F_law :=
  fng_of (N := N_law) D ⟨rfl, rfl, rfl, by decide +kernel, rfl, by decide +kernel, by decide +kernel⟩ rfl fun cd A outer s H E hr ok => by
    have h_0 : SS (cxOf (L2.CX P w) P w K mg base N_law "law" (defScope s_law) f cd A outer s H E) G (WE E) ((defBody s_law).getD 0 (.Pass ⟨0, 0, 0, 0⟩)) r_law_0 := (ss_asg (se_lst (sa_consP se_str (sa_consP se_str (sa_consP se_str (sa_consP se_str (sa_consP se_str (sa_consP se_str (sa_consP se_str (sa_consP se_str (sa_consP se_str (sa_consP se_str (sa_consP se_non (sa_consP se_int (sa_consP se_bl sa_nil)))))))))))))) (sg_name ok.toXOs 1 nm_law_1 lc_law_1 (.inl rfl)))
    have h_1 : SS (cxOf (L2.CX P w) P w K mg base N_law "law" (defScope s_law) f cd A outer s H E) G (WE E) ((defBody s_law).getD 1 (.Pass ⟨0, 0, 0, 0⟩)) r_law_1 := (ss_asg (se_bin os_add (se_var 1 nm_law_1 vs_law_1 db__law_words cd__law_words) (se_lst (sa_consP (se_tup (sa_consP se_str sa_nil)) (sa_consP (se_lst (sa_consP se_str sa_nil)) sa_nil)))) (sg_name ok.toXOs 1 nm_law_1 lc_law_1 (.inl rfl)))
    have h_2 : SS (cxOf (L2.CX P w) P w K mg base N_law "law" (defScope s_law) f cd A outer s H E) G (WE E) ((defBody s_law).getD 2 (.Pass ⟨0, 0, 0, 0⟩)) r_law_2 := (ss_asg (se_lst (sa_consP se_int (sa_consP se_int (sa_consP (se_bin os_pow se_int se_int) (sa_consP (se_neg se_int) (sa_consP se_bl (sa_consP se_bl (sa_consP se_non (sa_consP se_str (sa_consP se_str (sa_consP se_str (sa_consP se_str (sa_consP (se_tup (sa_consP se_int sa_nil)) (sa_consP (se_lst (sa_consP se_int sa_nil)) (sa_consP se_str (sa_consP (se_neg (se_bin os_pow se_int se_int)) sa_nil)))))))))))))))) (sg_name ok.toXOs 2 nm_law_2 lc_law_2 (.inl rfl)))
    have h_3_a_0 : SS (cxOf (L2.CX P w) P w K mg base N_law "law" (defScope s_law) f cd A outer s H E) G (WE E) ((subA ((defBody s_law).getD 3 (.Pass ⟨0, 0, 0, 0⟩))).getD 0 (.Pass ⟨0, 0, 0, 0⟩)) r_law_3_a_0 := (ss_asg (se_call g__law_pool ok.toXOs (hr.mono (by decide)) D__law_pool.mg D__law_pool.kp D__law_pool.bi dfl_nil (sa_consP (se_var 0 nm_law_0 vs_law_0 db__law_script cd__law_script) (sa_consP (se_var 3 nm_law_3 vs_law_3 db__law_k cd__law_k) sa_nil)) gl_law__law_pool db__law_pool) (sg_name ok.toXOs 4 nm_law_4 lc_law_4 (.inl rfl)))
    have h_3_a_1_a_0_a_0 : SS (cxOf (L2.CX P w) P w K mg base N_law "law" (defScope s_law) f cd A outer s H E) G (WE E) ((subA ((subA ((subA ((defBody s_law).getD 3 (.Pass ⟨0, 0, 0, 0⟩))).getD 1 (.Pass ⟨0, 0, 0, 0⟩))).getD 0 (.Pass ⟨0, 0, 0, 0⟩))).getD 0 (.Pass ⟨0, 0, 0, 0⟩)) r_law_3_a_1_a_0_a_0 := (ss_ret se_bl)
    have h_3_a_1_a_0 : SS (cxOf (L2.CX P w) P w K mg base N_law "law" (defScope s_law) f cd A outer s H E) G (WE E) ((subA ((subA ((defBody s_law).getD 3 (.Pass ⟨0, 0, 0, 0⟩))).getD 1 (.Pass ⟨0, 0, 0, 0⟩))).getD 0 (.Pass ⟨0, 0, 0, 0⟩)) r_law_3_a_1_a_0 := (ss_if (st_cmp (os_ne ok.toXOs) (se_callB (fn_repr2 ok.toXOs) T.z_repr (sa_consP (se_call g_is_word ok.toXOs (hr.mono (by decide)) D_is_word.mg D_is_word.kp D_is_word.bi dfl_nil (sa_consP (se_var 5 nm_law_5 vs_law_5 db__law_value cd__law_value) sa_nil) gl_law_is_word db_is_word) sa_nil) gl_law_repr bf_repr nn_repr db_repr) (se_callB (fn_repr2 ok.toXOs) T.z_repr (sa_consP (se_call g__law_is_word ok.toXOs (hr.mono (by decide)) D__law_is_word.mg D__law_is_word.kp D__law_is_word.bi dfl_nil (sa_consP (se_var 5 nm_law_5 vs_law_5 db__law_value cd__law_value) sa_nil) gl_law__law_is_word db__law_is_word) sa_nil) gl_law_repr bf_repr nn_repr db_repr)) (ss_one h_3_a_1_a_0_a_0) ss_nil)
    have h_3_a_1 : SS (cxOf (L2.CX P w) P w K mg base N_law "law" (defScope s_law) f cd A outer s H E) G (WE E) ((subA ((defBody s_law).getD 3 (.Pass ⟨0, 0, 0, 0⟩))).getD 1 (.Pass ⟨0, 0, 0, 0⟩)) r_law_3_a_1 := (ss_for ok (si_seq (se_var 1 nm_law_1 vs_law_1 db__law_words cd__law_words)) (sg_name ok.toXOs 5 nm_law_5 lc_law_5 (.inl rfl)) (ss_one h_3_a_1_a_0))
    have h_3_a_2 : SS (cxOf (L2.CX P w) P w K mg base N_law "law" (defScope s_law) f cd A outer s H E) G (WE E) ((subA ((defBody s_law).getD 3 (.Pass ⟨0, 0, 0, 0⟩))).getD 2 (.Pass ⟨0, 0, 0, 0⟩)) r_law_3_a_2 := (ss_asg (se_lst sa_nil) (sg_name ok.toXOs 6 nm_law_6 lc_law_6 (.inl rfl)))
    have h_3_a_3_a_0 : SS (cxOf (L2.CX P w) P w K mg base N_law "law" (defScope s_law) f cd A outer s H E) G (WE E) ((subA ((subA ((defBody s_law).getD 3 (.Pass ⟨0, 0, 0, 0⟩))).getD 3 (.Pass ⟨0, 0, 0, 0⟩))).getD 0 (.Pass ⟨0, 0, 0, 0⟩)) r_law_3_a_3_a_0 := (ss_expr (se_bm mt_appendS PySem.F.plainAttrs_list PySem.F.slot_list_append PySem.F.type_list_append (se_var 6 nm_law_6 vs_law_6 db__law_heads cd__law_heads) (sa_consP (se_tup (sa_consP (se_bin os_mul (se_ix se_str (se_var 7 nm_law_7 vs_law_7 db__law_at cd__law_at)) (se_bin os_add se_int (se_call g__law_take ok.toXOs (hr.mono (by decide)) D__law_take.mg D__law_take.kp D__law_take.bi dfl_nil (sa_consP (se_var 4 nm_law_4 vs_law_4 db__law_pool_here cd__law_pool_here) (sa_consP se_int sa_nil)) gl_law__law_take db__law_take))) (sa_consP (se_ix (se_lst (sa_consP se_str (sa_consP se_str sa_nil))) (se_call g__law_take ok.toXOs (hr.mono (by decide)) D__law_take.mg D__law_take.kp D__law_take.bi dfl_nil (sa_consP (se_var 4 nm_law_4 vs_law_4 db__law_pool_here cd__law_pool_here) (sa_consP se_int sa_nil)) gl_law__law_take db__law_take)) sa_nil))) sa_nil)))
    have h_3_a_3 : SS (cxOf (L2.CX P w) P w K mg base N_law "law" (defScope s_law) f cd A outer s H E) G (WE E) ((subA ((defBody s_law).getD 3 (.Pass ⟨0, 0, 0, 0⟩))).getD 3 (.Pass ⟨0, 0, 0, 0⟩)) r_law_3_a_3 := (ss_for ok (si_rng1 T.z_range (sa_consP (se_bin os_add se_int (se_call g__law_take ok.toXOs (hr.mono (by decide)) D__law_take.mg D__law_take.kp D__law_take.bi dfl_nil (sa_consP (se_var 4 nm_law_4 vs_law_4 db__law_pool_here cd__law_pool_here) (sa_consP se_int sa_nil)) gl_law__law_take db__law_take)) sa_nil)) (sg_name ok.toXOs 7 nm_law_7 lc_law_7 (.inl rfl)) (ss_one h_3_a_3_a_0))
    have h_3_a_4 : SS (cxOf (L2.CX P w) P w K mg base N_law "law" (defScope s_law) f cd A outer s H E) G (WE E) ((subA ((defBody s_law).getD 3 (.Pass ⟨0, 0, 0, 0⟩))).getD 4 (.Pass ⟨0, 0, 0, 0⟩)) r_law_3_a_4 := (ss_asg (se_call g__law_take ok.toXOs (hr.mono (by decide)) D__law_take.mg D__law_take.kp D__law_take.bi dfl_nil (sa_consP (se_var 4 nm_law_4 vs_law_4 db__law_pool_here cd__law_pool_here) (sa_consP (se_callB fn_len2 T.z_len (sa_consP (se_var 6 nm_law_6 vs_law_6 db__law_heads cd__law_heads) sa_nil) gl_law_len bf_len nn_len db_len) sa_nil)) gl_law__law_take db__law_take) (sg_name ok.toXOs 7 nm_law_7 lc_law_7 (.inl rfl)))
    have h_3_a_5 : SS (cxOf (L2.CX P w) P w K mg base N_law "law" (defScope s_law) f cd A outer s H E) G (WE E) ((subA ((defBody s_law).getD 3 (.Pass ⟨0, 0, 0, 0⟩))).getD 5 (.Pass ⟨0, 0, 0, 0⟩)) r_law_3_a_5 := (ss_asg (se_lst (sa_consP (se_tup (sa_consP se_str (sa_consP se_str sa_nil))) (sa_consP (se_tup (sa_consP se_str (sa_consP se_str sa_nil))) (sa_consP (se_tup (sa_consP se_str sa_nil)) (sa_consP (se_tup (sa_consP se_str (sa_consP se_str (sa_consP se_int sa_nil)))) (sa_consP (se_lst (sa_consP se_str (sa_consP se_str sa_nil))) (sa_consP se_non sa_nil))))))) (sg_name ok.toXOs 8 nm_law_8 lc_law_8 (.inl rfl)))
    have h_3_a_6 : SS (cxOf (L2.CX P w) P w K mg base N_law "law" (defScope s_law) f cd A outer s H E) G (WE E) ((subA ((defBody s_law).getD 3 (.Pass ⟨0, 0, 0, 0⟩))).getD 6 (.Pass ⟨0, 0, 0, 0⟩)) r_law_3_a_6 := (ss_asg (se_bin os_add (se_var 8 nm_law_8 vs_law_8 db__law_odd cd__law_odd) (se_lst (sa_consP (se_tup (sa_consP se_str (sa_consP se_str sa_nil))) (sa_consP (se_tup (sa_consP se_str (sa_consP se_non sa_nil))) sa_nil)))) (sg_name ok.toXOs 8 nm_law_8 lc_law_8 (.inl rfl)))
    have h_3_a_7 : SS (cxOf (L2.CX P w) P w K mg base N_law "law" (defScope s_law) f cd A outer s H E) G (WE E) ((subA ((defBody s_law).getD 3 (.Pass ⟨0, 0, 0, 0⟩))).getD 7 (.Pass ⟨0, 0, 0, 0⟩)) r_law_3_a_7 := (ss_asg (se_bin os_add (se_bin os_add (se_sl (se_var 6 nm_law_6 vs_law_6 db__law_heads cd__law_heads) sp_none (sp_some (se_var 7 nm_law_7 vs_law_7 db__law_at cd__law_at))) (se_lst (sa_consP (se_ix (se_var 8 nm_law_8 vs_law_8 db__law_odd cd__law_odd) (se_call g__law_take ok.toXOs (hr.mono (by decide)) D__law_take.mg D__law_take.kp D__law_take.bi dfl_nil (sa_consP (se_var 4 nm_law_4 vs_law_4 db__law_pool_here cd__law_pool_here) (sa_consP se_int sa_nil)) gl_law__law_take db__law_take)) sa_nil))) (se_sl (se_var 6 nm_law_6 vs_law_6 db__law_heads cd__law_heads) (sp_some (se_bin os_add (se_var 7 nm_law_7 vs_law_7 db__law_at cd__law_at) (se_call g__law_take ok.toXOs (hr.mono (by decide)) D__law_take.mg D__law_take.kp D__law_take.bi dfl_nil (sa_consP (se_var 4 nm_law_4 vs_law_4 db__law_pool_here cd__law_pool_here) (sa_consP se_int sa_nil)) gl_law__law_take db__law_take))) sp_none)) (sg_name ok.toXOs 9 nm_law_9 lc_law_9 (.inl rfl)))
    have h_3_a_8_a_0_a_0 : SS (cxOf (L2.CX P w) P w K mg base N_law "law" (defScope s_law) f cd A outer s H E) G (WE E) ((subA ((subA ((subA ((defBody s_law).getD 3 (.Pass ⟨0, 0, 0, 0⟩))).getD 8 (.Pass ⟨0, 0, 0, 0⟩))).getD 0 (.Pass ⟨0, 0, 0, 0⟩))).getD 0 (.Pass ⟨0, 0, 0, 0⟩)) r_law_3_a_8_a_0_a_0 := (ss_ret se_bl)
    have h_3_a_8_a_0 : SS (cxOf (L2.CX P w) P w K mg base N_law "law" (defScope s_law) f cd A outer s H E) G (WE E) ((subA ((subA ((defBody s_law).getD 3 (.Pass ⟨0, 0, 0, 0⟩))).getD 8 (.Pass ⟨0, 0, 0, 0⟩))).getD 0 (.Pass ⟨0, 0, 0, 0⟩)) r_law_3_a_8_a_0 := (ss_if (st_cmp (os_ne ok.toXOs) (se_callB (fn_repr2 ok.toXOs) T.z_repr (sa_consP (se_call g_is_columns ok.toXOs (hr.mono (by decide)) D_is_columns.mg D_is_columns.kp D_is_columns.bi dfl_nil (sa_consP (se_var 5 nm_law_5 vs_law_5 db__law_value cd__law_value) sa_nil) gl_law_is_columns db_is_columns) sa_nil) gl_law_repr bf_repr nn_repr db_repr) (se_callB (fn_repr2 ok.toXOs) T.z_repr (sa_consP (se_call g__law_due ok.toXOs (hr.mono (by decide)) D__law_due.mg D__law_due.kp D__law_due.bi dfl_nil (sa_consP (se_var 5 nm_law_5 vs_law_5 db__law_value cd__law_value) sa_nil) gl_law__law_due db__law_due) sa_nil) gl_law_repr bf_repr nn_repr db_repr)) (ss_one h_3_a_8_a_0_a_0) ss_nil)
    have h_3_a_8_a_1_a_0 : SS (cxOf (L2.CX P w) P w K mg base N_law "law" (defScope s_law) f cd A outer s H E) G (WE E) ((subA ((subA ((subA ((defBody s_law).getD 3 (.Pass ⟨0, 0, 0, 0⟩))).getD 8 (.Pass ⟨0, 0, 0, 0⟩))).getD 1 (.Pass ⟨0, 0, 0, 0⟩))).getD 0 (.Pass ⟨0, 0, 0, 0⟩)) r_law_3_a_8_a_1_a_0 := (ss_ret se_bl)
    have h_3_a_8_a_1 : SS (cxOf (L2.CX P w) P w K mg base N_law "law" (defScope s_law) f cd A outer s H E) G (WE E) ((subA ((subA ((defBody s_law).getD 3 (.Pass ⟨0, 0, 0, 0⟩))).getD 8 (.Pass ⟨0, 0, 0, 0⟩))).getD 1 (.Pass ⟨0, 0, 0, 0⟩)) r_law_3_a_8_a_1 := (ss_if (st_w (sw_and (st_not (st_truth (se_call g__law_due ok.toXOs (hr.mono (by decide)) D__law_due.mg D__law_due.kp D__law_due.bi dfl_nil (sa_consP (se_var 5 nm_law_5 vs_law_5 db__law_value cd__law_value) sa_nil) gl_law__law_due db__law_due))) (sw_and1 (st_cmp (os_ne ok.toXOs) (se_call g__law_heard ok.toXOs (hr.mono (by decide)) D__law_heard.mg D__law_heard.kp D__law_heard.bi dfl_nil (sa_consP (se_var 5 nm_law_5 vs_law_5 db__law_value cd__law_value) sa_nil) gl_law__law_heard db__law_heard) (se_callB (fn_repr2 ok.toXOs) T.z_repr (sa_consP (se_var 5 nm_law_5 vs_law_5 db__law_value cd__law_value) sa_nil) gl_law_repr bf_repr nn_repr db_repr))))) (ss_one h_3_a_8_a_1_a_0) ss_nil)
    have h_3_a_8 : SS (cxOf (L2.CX P w) P w K mg base N_law "law" (defScope s_law) f cd A outer s H E) G (WE E) ((subA ((defBody s_law).getD 3 (.Pass ⟨0, 0, 0, 0⟩))).getD 8 (.Pass ⟨0, 0, 0, 0⟩)) r_law_3_a_8 := (ss_for ok (si_seq (se_lst (sa_consP (se_callT fn_tuple T.z_tuple (sa_consP (se_var 6 nm_law_6 vs_law_6 db__law_heads cd__law_heads) sa_nil) gl_law_tuple bf_tuple nn_tuple db_tuple) (sa_consP (se_callT fn_tuple T.z_tuple (sa_consP (se_var 9 nm_law_9 vs_law_9 db__law_bent cd__law_bent) sa_nil) gl_law_tuple bf_tuple nn_tuple db_tuple) (sa_consP (se_var 6 nm_law_6 vs_law_6 db__law_heads cd__law_heads) (sa_consP (se_tup sa_nil) (sa_consP se_non (sa_consP se_str (sa_consP se_dnil (sa_consP (se_callT fn_tuple T.z_tuple (sa_consP (se_bin os_add (se_var 6 nm_law_6 vs_law_6 db__law_heads cd__law_heads) (se_sl (se_var 6 nm_law_6 vs_law_6 db__law_heads cd__law_heads) sp_none (sp_some se_int))) sa_nil) gl_law_tuple bf_tuple nn_tuple db_tuple) sa_nil)))))))))) (sg_name ok.toXOs 5 nm_law_5 lc_law_5 (.inl rfl)) (ss_cons h_3_a_8_a_0 (ss_one h_3_a_8_a_1)))
    have h_3_a_9 : SS (cxOf (L2.CX P w) P w K mg base N_law "law" (defScope s_law) f cd A outer s H E) G (WE E) ((subA ((defBody s_law).getD 3 (.Pass ⟨0, 0, 0, 0⟩))).getD 9 (.Pass ⟨0, 0, 0, 0⟩)) r_law_3_a_9 := (ss_asg (se_callT fn_tuple T.z_tuple (sa_consP (se_sl (se_var 6 nm_law_6 vs_law_6 db__law_heads cd__law_heads) sp_none (sp_some se_int)) sa_nil) gl_law_tuple bf_tuple nn_tuple db_tuple) (sg_name ok.toXOs 10 nm_law_10 lc_law_10 (.inl rfl)))
    have h_3_a_10_a_0 : SS (cxOf (L2.CX P w) P w K mg base N_law "law" (defScope s_law) f cd A outer s H E) G (WE E) ((subA ((subA ((defBody s_law).getD 3 (.Pass ⟨0, 0, 0, 0⟩))).getD 10 (.Pass ⟨0, 0, 0, 0⟩))).getD 0 (.Pass ⟨0, 0, 0, 0⟩)) r_law_3_a_10_a_0 := (ss_lc (i := 12) [("_law_head", 13)] ok rfl rfl rfl (si_seq (se_var 10 nm_law_10 vs_law_10 db__law_some cd__law_some)) (blkW (N := N_law) (sc := defScope s_law) (by decide +kernel)) (fun _ _ _ _ _ okb => (sg_name okb.toXOs 13 rfl)) (by rfl) (fun _ _ _ _ _ okb => sts_nil) (fun _ _ _ _ _ okb => (se_ix (se_var 2 rfl) (se_call g__law_take okb.toXOs (hr.mono (by decide)) D__law_take.mg D__law_take.kp D__law_take.bi dfl_nil (sa_consP (se_var 4 rfl) (sa_consP se_int sa_nil)) rfl db__law_take))))
    have h_3_a_10_a_1_a_0_a_0 : SS (cxOf (L2.CX P w) P w K mg base N_law "law" (defScope s_law) f cd A outer s H E) G (WE E) ((subA ((subA ((subA ((subA ((defBody s_law).getD 3 (.Pass ⟨0, 0, 0, 0⟩))).getD 10 (.Pass ⟨0, 0, 0, 0⟩))).getD 1 (.Pass ⟨0, 0, 0, 0⟩))).getD 0 (.Pass ⟨0, 0, 0, 0⟩))).getD 0 (.Pass ⟨0, 0, 0, 0⟩)) r_law_3_a_10_a_1_a_0_a_0 := (ss_setIx (se_var 12 nm_law_12 vs_law_12 db__law_row cd__law_row) (se_var 7 nm_law_7 vs_law_7 db__law_at cd__law_at) (se_ix (se_ix (se_lst (sa_consP (se_lst (sa_consP se_str (sa_consP se_str sa_nil))) (sa_consP (se_lst (sa_consP se_int (sa_consP (se_bin os_pow se_int se_int) sa_nil))) sa_nil))) (se_callT fn_int T.z_int (sa_consP (se_cmp (os_eq ok.toXOs) (se_ix (se_var 13 nm_law_13 vs_law_13 db__law_head cd__law_head) se_int) se_str) sa_nil) gl_law_int bf_int nn_int db_int)) (se_call g__law_take ok.toXOs (hr.mono (by decide)) D__law_take.mg D__law_take.kp D__law_take.bi dfl_nil (sa_consP (se_var 4 nm_law_4 vs_law_4 db__law_pool_here cd__law_pool_here) (sa_consP se_int sa_nil)) gl_law__law_take db__law_take)))
    have h_3_a_10_a_1_a_0 : SS (cxOf (L2.CX P w) P w K mg base N_law "law" (defScope s_law) f cd A outer s H E) G (WE E) ((subA ((subA ((subA ((defBody s_law).getD 3 (.Pass ⟨0, 0, 0, 0⟩))).getD 10 (.Pass ⟨0, 0, 0, 0⟩))).getD 1 (.Pass ⟨0, 0, 0, 0⟩))).getD 0 (.Pass ⟨0, 0, 0, 0⟩)) r_law_3_a_10_a_1_a_0 := (ss_if (st_cmp os_gt (se_call g__law_take ok.toXOs (hr.mono (by decide)) D__law_take.mg D__law_take.kp D__law_take.bi dfl_nil (sa_consP (se_var 4 nm_law_4 vs_law_4 db__law_pool_here cd__law_pool_here) (sa_consP se_int sa_nil)) gl_law__law_take db__law_take) se_int) (ss_one h_3_a_10_a_1_a_0_a_0) ss_nil)
    have h_3_a_10_a_1 : SS (cxOf (L2.CX P w) P w K mg base N_law "law" (defScope s_law) f cd A outer s H E) G (WE E) ((subA ((subA ((defBody s_law).getD 3 (.Pass ⟨0, 0, 0, 0⟩))).getD 10 (.Pass ⟨0, 0, 0, 0⟩))).getD 1 (.Pass ⟨0, 0, 0, 0⟩)) r_law_3_a_10_a_1 := (ss_for ok (si_enum2 T.z_enumerate (sa_consP (se_var 10 nm_law_10 vs_law_10 db__law_some cd__law_some) sa_nil)) (sg_tup ok (sgs_cons (sg_name ok.toXOs 7 nm_law_7 lc_law_7 (.inl rfl)) (sgs_cons (sg_name ok.toXOs 13 nm_law_13 lc_law_13 (.inl rfl)) sgs_nil))) (ss_one h_3_a_10_a_1_a_0))
    have h_3_a_10_a_2_a_0_a_0 : SS (cxOf (L2.CX P w) P w K mg base N_law "law" (defScope s_law) f cd A outer s H E) G (WE E) ((subA ((subA ((subA ((subA ((defBody s_law).getD 3 (.Pass ⟨0, 0, 0, 0⟩))).getD 10 (.Pass ⟨0, 0, 0, 0⟩))).getD 2 (.Pass ⟨0, 0, 0, 0⟩))).getD 0 (.Pass ⟨0, 0, 0, 0⟩))).getD 0 (.Pass ⟨0, 0, 0, 0⟩)) r_law_3_a_10_a_2_a_0_a_0 := (ss_ret se_bl)
    have h_3_a_10_a_2_a_0 : SS (cxOf (L2.CX P w) P w K mg base N_law "law" (defScope s_law) f cd A outer s H E) G (WE E) ((subA ((subA ((subA ((defBody s_law).getD 3 (.Pass ⟨0, 0, 0, 0⟩))).getD 10 (.Pass ⟨0, 0, 0, 0⟩))).getD 2 (.Pass ⟨0, 0, 0, 0⟩))).getD 0 (.Pass ⟨0, 0, 0, 0⟩)) r_law_3_a_10_a_2_a_0 := (ss_if (st_cmp (os_ne ok.toXOs) (se_callB (fn_repr2 ok.toXOs) T.z_repr (sa_consP (se_call g_is_row ok.toXOs (hr.mono (by decide)) D_is_row.mg D_is_row.kp D_is_row.bi dfl_nil (sa_consP (se_var 10 nm_law_10 vs_law_10 db__law_some cd__law_some) (sa_consP (se_var 5 nm_law_5 vs_law_5 db__law_value cd__law_value) sa_nil)) gl_law_is_row db_is_row) sa_nil) gl_law_repr bf_repr nn_repr db_repr) (se_callB (fn_repr2 ok.toXOs) T.z_repr (sa_consP (se_call g__law_row_due ok.toXOs (hr.mono (by decide)) D__law_row_due.mg D__law_row_due.kp D__law_row_due.bi dfl_nil (sa_consP (se_var 10 nm_law_10 vs_law_10 db__law_some cd__law_some) (sa_consP (se_var 5 nm_law_5 vs_law_5 db__law_value cd__law_value) sa_nil)) gl_law__law_row_due db__law_row_due) sa_nil) gl_law_repr bf_repr nn_repr db_repr)) (ss_one h_3_a_10_a_2_a_0_a_0) ss_nil)
    have h_3_a_10_a_2 : SS (cxOf (L2.CX P w) P w K mg base N_law "law" (defScope s_law) f cd A outer s H E) G (WE E) ((subA ((subA ((defBody s_law).getD 3 (.Pass ⟨0, 0, 0, 0⟩))).getD 10 (.Pass ⟨0, 0, 0, 0⟩))).getD 2 (.Pass ⟨0, 0, 0, 0⟩)) r_law_3_a_10_a_2 := (ss_for ok (si_seq (se_lst (sa_consP (se_callT fn_tuple T.z_tuple (sa_consP (se_var 12 nm_law_12 vs_law_12 db__law_row cd__law_row) sa_nil) gl_law_tuple bf_tuple nn_tuple db_tuple) (sa_consP (se_var 12 nm_law_12 vs_law_12 db__law_row cd__law_row) (sa_consP (se_callT fn_tuple T.z_tuple (sa_consP (se_bin os_add (se_var 12 nm_law_12 vs_law_12 db__law_row cd__law_row) (se_sl (se_var 12 nm_law_12 vs_law_12 db__law_row cd__law_row) sp_none (sp_some se_int))) sa_nil) gl_law_tuple bf_tuple nn_tuple db_tuple) (sa_consP (se_callT fn_tuple T.z_tuple (sa_consP (se_sl (se_var 12 nm_law_12 vs_law_12 db__law_row cd__law_row) (sp_some se_int) sp_none) sa_nil) gl_law_tuple bf_tuple nn_tuple db_tuple) (sa_consP se_non sa_nil))))))) (sg_name ok.toXOs 5 nm_law_5 lc_law_5 (.inl rfl)) (ss_one h_3_a_10_a_2_a_0))
    have h_3_a_10 : SS (cxOf (L2.CX P w) P w K mg base N_law "law" (defScope s_law) f cd A outer s H E) G (WE E) ((subA ((defBody s_law).getD 3 (.Pass ⟨0, 0, 0, 0⟩))).getD 10 (.Pass ⟨0, 0, 0, 0⟩)) r_law_3_a_10 := (ss_for ok (si_rng1 T.z_range (sa_consP se_int sa_nil)) (sg_name ok.toXOs 11 nm_law_11 lc_law_11 (.inl rfl)) (ss_cons h_3_a_10_a_0 (ss_cons h_3_a_10_a_1 (ss_one h_3_a_10_a_2))))
    have h_3 : SS (cxOf (L2.CX P w) P w K mg base N_law "law" (defScope s_law) f cd A outer s H E) G (WE E) ((defBody s_law).getD 3 (.Pass ⟨0, 0, 0, 0⟩)) r_law_3 := (ss_for ok (si_rng1 T.z_range (sa_consP (se_callB (fn_max2 ok) T.z_max (sa_consP se_int (sa_consP (se_callB (fn_min2 ok) T.z_min (sa_consP (se_callB fn_len2 T.z_len (sa_consP (se_var 0 nm_law_0 vs_law_0 db__law_script cd__law_script) sa_nil) gl_law_len bf_len nn_len db_len) (sa_consP se_int sa_nil)) gl_law_min bf_min nn_min db_min) sa_nil)) gl_law_max bf_max nn_max db_max) sa_nil)) (sg_name ok.toXOs 3 nm_law_3 lc_law_3 (.inl rfl)) (ss_cons h_3_a_0 (ss_cons h_3_a_1 (ss_cons h_3_a_2 (ss_cons h_3_a_3 (ss_cons h_3_a_4 (ss_cons h_3_a_5 (ss_cons h_3_a_6 (ss_cons h_3_a_7 (ss_cons h_3_a_8 (ss_cons h_3_a_9 (ss_one h_3_a_10))))))))))))
    have h_4 : SS (cxOf (L2.CX P w) P w K mg base N_law "law" (defScope s_law) f cd A outer s H E) G (WE E) ((defBody s_law).getD 4 (.Pass ⟨0, 0, 0, 0⟩)) r_law_4 := (ss_ret se_bl)
    exact (ss_cons h_0 (ss_cons h_1 (ss_cons h_2 (ss_cons h_3 (ss_one h_4)))))
end
end Kx

set_option Elab.async false
set_option linter.all false
set_option maxRecDepth 100000
set_option maxHeartbeats 4000000
namespace Kx
open PySem PySem.Spec L2 Pz
section
abbrev s_InvalidColumns : Stmt := inClass (top 2) 0
def gOf (C_StreamError C_InvalidColumns : Addr) : Nat → Addr
  | 0 => C_StreamError
  | 1 => C_InvalidColumns
  | _ => 0
theorem all_mk {P : Program} {w : World} {K : PySem.W.Frag} {h : Heap} {mg : Str → Option Value} {fa : Addr} (X : K.In h) (G0 : h.Ns mainGlobals mg) (hfa : mg "law" = some (.ref fa))
    {C_StreamError C_InvalidColumns : Addr}
    {nm_InvalidColumns q_InvalidColumns : Str} {N_InvalidColumns : Addr} {bs_InvalidColumns : List Value} {sn_InvalidColumns : List Str} {sub_InvalidColumns : List Value} {ab_InvalidColumns : Bool} {co_InvalidColumns : Option Bool} {dd_InvalidColumns : Option Addr} {m0_InvalidColumns m1_InvalidColumns m2_InvalidColumns m3_InvalidColumns m5_InvalidColumns : Option Value}
    {f_InvalidColumns : Addr} {oc_InvalidColumns kV_InvalidColumns dc_InvalidColumns pm_InvalidColumns cd_InvalidColumns ct_InvalidColumns : Value} {od_InvalidColumns an_InvalidColumns : Option Addr} {sl_InvalidColumns : Array (Option Value)}
    {f_is_word : Addr} {oc_is_word kV_is_word dc_is_word pm_is_word cd_is_word ct_is_word : Value} {od_is_word an_is_word : Option Addr} {sl_is_word : Array (Option Value)}
    {f_is_number : Addr} {oc_is_number kV_is_number dc_is_number pm_is_number cd_is_number ct_is_number : Value} {od_is_number an_is_number : Option Addr} {sl_is_number : Array (Option Value)}
    {f_is_column : Addr} {oc_is_column kV_is_column dc_is_column pm_is_column cd_is_column ct_is_column : Value} {od_is_column an_is_column : Option Addr} {sl_is_column : Array (Option Value)}
    {f_is_columns : Addr} {oc_is_columns kV_is_columns dc_is_columns pm_is_columns cd_is_columns ct_is_columns : Value} {od_is_columns an_is_columns : Option Addr} {sl_is_columns : Array (Option Value)}
    {f_is_of_kind : Addr} {oc_is_of_kind kV_is_of_kind dc_is_of_kind pm_is_of_kind cd_is_of_kind ct_is_of_kind : Value} {od_is_of_kind an_is_of_kind : Option Addr} {sl_is_of_kind : Array (Option Value)}
    {f_fits : Addr} {oc_fits kV_fits dc_fits pm_fits cd_fits ct_fits : Value} {od_fits an_fits : Option Addr} {sl_fits : Array (Option Value)}
    {f_is_row : Addr} {oc_is_row kV_is_row dc_is_row pm_is_row cd_is_row ct_is_row : Value} {od_is_row an_is_row : Option Addr} {sl_is_row : Array (Option Value)}
    {f__law_pool : Addr} {oc__law_pool kV__law_pool dc__law_pool pm__law_pool cd__law_pool ct__law_pool : Value} {od__law_pool an__law_pool : Option Addr} {sl__law_pool : Array (Option Value)}
    {f__law_take : Addr} {oc__law_take kV__law_take dc__law_take pm__law_take cd__law_take ct__law_take : Value} {od__law_take an__law_take : Option Addr} {sl__law_take : Array (Option Value)}
    {f__law_is_word : Addr} {oc__law_is_word kV__law_is_word dc__law_is_word pm__law_is_word cd__law_is_word ct__law_is_word : Value} {od__law_is_word an__law_is_word : Option Addr} {sl__law_is_word : Array (Option Value)}
    {f__law_is_number : Addr} {oc__law_is_number kV__law_is_number dc__law_is_number pm__law_is_number cd__law_is_number ct__law_is_number : Value} {od__law_is_number an__law_is_number : Option Addr} {sl__law_is_number : Array (Option Value)}
    {f__law_due : Addr} {oc__law_due kV__law_due dc__law_due pm__law_due cd__law_due ct__law_due : Value} {od__law_due an__law_due : Option Addr} {sl__law_due : Array (Option Value)}
    {f__law_row_due : Addr} {oc__law_row_due kV__law_row_due dc__law_row_due pm__law_row_due cd__law_row_due ct__law_row_due : Value} {od__law_row_due an__law_row_due : Option Addr} {sl__law_row_due : Array (Option Value)}
    {f__law_heard : Addr} {oc__law_heard kV__law_heard dc__law_heard pm__law_heard cd__law_heard ct__law_heard : Value} {od__law_heard an__law_heard : Option Addr} {sl__law_heard : Array (Option Value)}
    {f_law : Addr} {oc_law kV_law dc_law pm_law cd_law ct_law : Value} {od_law an_law : Option Addr} {sl_law : Array (Option Value)}
    {p_KINDS : Addr} {dd_KINDS : Option Addr} {n_KINDS : Nat} {sl_KINDS : Array (Option Value)} {t_KINDS_0 t_KINDS_1 : Tok}
    {t_MOST_COLUMNS : Tok}
    (a_StreamError : PySem.W.nsIn K mainGlobals "StreamError" = some (some (.ref C_StreamError)))
    (a_InvalidColumns : PySem.W.nsIn K mainGlobals "InvalidColumns" = some (some (.ref C_InvalidColumns)))
    (i_InvalidColumns : PySem.W.findIn K (.ref C_InvalidColumns) "__init__" = some (some (.ref f_InvalidColumns)))
    (l_InvalidColumns : K.lookup f_InvalidColumns = some ⟨oc_InvalidColumns, od_InvalidColumns, .func (PySem.W.fnOf "__init__" "InvalidColumns.__init__" (defArgs s_InvalidColumns) (defBody s_InvalidColumns) (defScope s_InvalidColumns) .none kV_InvalidColumns dc_InvalidColumns pm_InvalidColumns an_InvalidColumns cd_InvalidColumns ct_InvalidColumns), sl_InvalidColumns⟩)
    (c_InvalidColumns : PySem.W.codeIn K cd_InvalidColumns "InvalidColumns.__init__" = true)
    (k_InvalidColumns : PySem.W.keepIn K (.ref f_InvalidColumns) = true)
    (x_InvalidColumns : K.lookup C_InvalidColumns = some (excClassObj nm_InvalidColumns q_InvalidColumns C_InvalidColumns N_InvalidColumns bs_InvalidColumns [.ref C_StreamError, .type "ValueError", .type "Exception", .type "BaseException", .type "object"] true sn_InvalidColumns sub_InvalidColumns ab_InvalidColumns co_InvalidColumns dd_InvalidColumns m0_InvalidColumns m1_InvalidColumns m2_InvalidColumns m3_InvalidColumns m5_InvalidColumns "ValueError.__new__"))
    (sa_InvalidColumns : PySem.W.findIn K (.ref C_InvalidColumns) "__setattr__" = some (some (.builtin "object.__setattr__")))
    (kc_InvalidColumns : PySem.W.keepIn K (.ref C_InvalidColumns) = true)
    (ti_InvalidColumns : PySem.W.typeIn K (.ref f_InvalidColumns) = some (.type "function"))
    (no_InvalidColumns : PySem.W.findIn K (.ref C_InvalidColumns) "value" = some none)
    (ga_InvalidColumns : PySem.W.findIn K (.ref C_InvalidColumns) "__getattribute__" = some (some (.builtin "BaseException.__getattribute__")))
    (gg_InvalidColumns : PySem.W.findIn K (.ref C_InvalidColumns) "__getattr__" = some none)
    (hd_InvalidColumns : PySem.W.hasDictIn K C_InvalidColumns = true)
    (eb_StreamError : PySem.W.subIn K (.ref C_StreamError) (.type "BaseException") = some true)
    (ic_StreamError : PySem.W.isClsIn K C_StreamError = true)
    (tc_StreamError : PySem.W.typeIn K (.ref C_StreamError) = some (.type "type"))
    (eb_InvalidColumns : PySem.W.subIn K (.ref C_InvalidColumns) (.type "BaseException") = some true)
    (ic_InvalidColumns : PySem.W.isClsIn K C_InvalidColumns = true)
    (tc_InvalidColumns : PySem.W.typeIn K (.ref C_InvalidColumns) = some (.type "type"))
    (su_InvalidColumns_InvalidColumns : PySem.W.subIn K (.ref C_InvalidColumns) (.ref C_InvalidColumns) = some true)
    (su_InvalidColumns_StreamError : PySem.W.subIn K (.ref C_InvalidColumns) (.ref C_StreamError) = some true)
    (a_is_word : PySem.W.nsIn K mainGlobals "is_word" = some (some (.ref f_is_word)))
    (l_is_word : K.lookup f_is_word = some ⟨oc_is_word, od_is_word, .func (PySem.W.fnOf "is_word" "is_word" (defArgs s_is_word) (defBody s_is_word) (defScope s_is_word) .none kV_is_word dc_is_word pm_is_word an_is_word cd_is_word ct_is_word), sl_is_word⟩)
    (c_is_word : PySem.W.codeIn K cd_is_word "is_word" = true)
    (k_is_word : PySem.W.keepIn K (.ref f_is_word) = true)
    (a_is_number : PySem.W.nsIn K mainGlobals "is_number" = some (some (.ref f_is_number)))
    (l_is_number : K.lookup f_is_number = some ⟨oc_is_number, od_is_number, .func (PySem.W.fnOf "is_number" "is_number" (defArgs s_is_number) (defBody s_is_number) (defScope s_is_number) .none kV_is_number dc_is_number pm_is_number an_is_number cd_is_number ct_is_number), sl_is_number⟩)
    (c_is_number : PySem.W.codeIn K cd_is_number "is_number" = true)
    (k_is_number : PySem.W.keepIn K (.ref f_is_number) = true)
    (a_is_column : PySem.W.nsIn K mainGlobals "is_column" = some (some (.ref f_is_column)))
    (l_is_column : K.lookup f_is_column = some ⟨oc_is_column, od_is_column, .func (PySem.W.fnOf "is_column" "is_column" (defArgs s_is_column) (defBody s_is_column) (defScope s_is_column) .none kV_is_column dc_is_column pm_is_column an_is_column cd_is_column ct_is_column), sl_is_column⟩)
    (c_is_column : PySem.W.codeIn K cd_is_column "is_column" = true)
    (k_is_column : PySem.W.keepIn K (.ref f_is_column) = true)
    (a_is_columns : PySem.W.nsIn K mainGlobals "is_columns" = some (some (.ref f_is_columns)))
    (l_is_columns : K.lookup f_is_columns = some ⟨oc_is_columns, od_is_columns, .func (PySem.W.fnOf "is_columns" "is_columns" (defArgs s_is_columns) (defBody s_is_columns) (defScope s_is_columns) .none kV_is_columns dc_is_columns pm_is_columns an_is_columns cd_is_columns ct_is_columns), sl_is_columns⟩)
    (c_is_columns : PySem.W.codeIn K cd_is_columns "is_columns" = true)
    (k_is_columns : PySem.W.keepIn K (.ref f_is_columns) = true)
    (a_is_of_kind : PySem.W.nsIn K mainGlobals "is_of_kind" = some (some (.ref f_is_of_kind)))
    (l_is_of_kind : K.lookup f_is_of_kind = some ⟨oc_is_of_kind, od_is_of_kind, .func (PySem.W.fnOf "is_of_kind" "is_of_kind" (defArgs s_is_of_kind) (defBody s_is_of_kind) (defScope s_is_of_kind) .none kV_is_of_kind dc_is_of_kind pm_is_of_kind an_is_of_kind cd_is_of_kind ct_is_of_kind), sl_is_of_kind⟩)
    (c_is_of_kind : PySem.W.codeIn K cd_is_of_kind "is_of_kind" = true)
    (k_is_of_kind : PySem.W.keepIn K (.ref f_is_of_kind) = true)
    (a_fits : PySem.W.nsIn K mainGlobals "fits" = some (some (.ref f_fits)))
    (l_fits : K.lookup f_fits = some ⟨oc_fits, od_fits, .func (PySem.W.fnOf "fits" "fits" (defArgs s_fits) (defBody s_fits) (defScope s_fits) .none kV_fits dc_fits pm_fits an_fits cd_fits ct_fits), sl_fits⟩)
    (c_fits : PySem.W.codeIn K cd_fits "fits" = true)
    (k_fits : PySem.W.keepIn K (.ref f_fits) = true)
    (a_is_row : PySem.W.nsIn K mainGlobals "is_row" = some (some (.ref f_is_row)))
    (l_is_row : K.lookup f_is_row = some ⟨oc_is_row, od_is_row, .func (PySem.W.fnOf "is_row" "is_row" (defArgs s_is_row) (defBody s_is_row) (defScope s_is_row) .none kV_is_row dc_is_row pm_is_row an_is_row cd_is_row ct_is_row), sl_is_row⟩)
    (c_is_row : PySem.W.codeIn K cd_is_row "is_row" = true)
    (k_is_row : PySem.W.keepIn K (.ref f_is_row) = true)
    (a__law_pool : PySem.W.nsIn K mainGlobals "_law_pool" = some (some (.ref f__law_pool)))
    (l__law_pool : K.lookup f__law_pool = some ⟨oc__law_pool, od__law_pool, .func (PySem.W.fnOf "_law_pool" "_law_pool" (defArgs s__law_pool) (defBody s__law_pool) (defScope s__law_pool) .none kV__law_pool dc__law_pool pm__law_pool an__law_pool cd__law_pool ct__law_pool), sl__law_pool⟩)
    (c__law_pool : PySem.W.codeIn K cd__law_pool "_law_pool" = true)
    (k__law_pool : PySem.W.keepIn K (.ref f__law_pool) = true)
    (a__law_take : PySem.W.nsIn K mainGlobals "_law_take" = some (some (.ref f__law_take)))
    (l__law_take : K.lookup f__law_take = some ⟨oc__law_take, od__law_take, .func (PySem.W.fnOf "_law_take" "_law_take" (defArgs s__law_take) (defBody s__law_take) (defScope s__law_take) .none kV__law_take dc__law_take pm__law_take an__law_take cd__law_take ct__law_take), sl__law_take⟩)
    (c__law_take : PySem.W.codeIn K cd__law_take "_law_take" = true)
    (k__law_take : PySem.W.keepIn K (.ref f__law_take) = true)
    (a__law_is_word : PySem.W.nsIn K mainGlobals "_law_is_word" = some (some (.ref f__law_is_word)))
    (l__law_is_word : K.lookup f__law_is_word = some ⟨oc__law_is_word, od__law_is_word, .func (PySem.W.fnOf "_law_is_word" "_law_is_word" (defArgs s__law_is_word) (defBody s__law_is_word) (defScope s__law_is_word) .none kV__law_is_word dc__law_is_word pm__law_is_word an__law_is_word cd__law_is_word ct__law_is_word), sl__law_is_word⟩)
    (c__law_is_word : PySem.W.codeIn K cd__law_is_word "_law_is_word" = true)
    (k__law_is_word : PySem.W.keepIn K (.ref f__law_is_word) = true)
    (a__law_is_number : PySem.W.nsIn K mainGlobals "_law_is_number" = some (some (.ref f__law_is_number)))
    (l__law_is_number : K.lookup f__law_is_number = some ⟨oc__law_is_number, od__law_is_number, .func (PySem.W.fnOf "_law_is_number" "_law_is_number" (defArgs s__law_is_number) (defBody s__law_is_number) (defScope s__law_is_number) .none kV__law_is_number dc__law_is_number pm__law_is_number an__law_is_number cd__law_is_number ct__law_is_number), sl__law_is_number⟩)
    (c__law_is_number : PySem.W.codeIn K cd__law_is_number "_law_is_number" = true)
    (k__law_is_number : PySem.W.keepIn K (.ref f__law_is_number) = true)
    (a__law_due : PySem.W.nsIn K mainGlobals "_law_due" = some (some (.ref f__law_due)))
    (l__law_due : K.lookup f__law_due = some ⟨oc__law_due, od__law_due, .func (PySem.W.fnOf "_law_due" "_law_due" (defArgs s__law_due) (defBody s__law_due) (defScope s__law_due) .none kV__law_due dc__law_due pm__law_due an__law_due cd__law_due ct__law_due), sl__law_due⟩)
    (c__law_due : PySem.W.codeIn K cd__law_due "_law_due" = true)
    (k__law_due : PySem.W.keepIn K (.ref f__law_due) = true)
    (a__law_row_due : PySem.W.nsIn K mainGlobals "_law_row_due" = some (some (.ref f__law_row_due)))
    (l__law_row_due : K.lookup f__law_row_due = some ⟨oc__law_row_due, od__law_row_due, .func (PySem.W.fnOf "_law_row_due" "_law_row_due" (defArgs s__law_row_due) (defBody s__law_row_due) (defScope s__law_row_due) .none kV__law_row_due dc__law_row_due pm__law_row_due an__law_row_due cd__law_row_due ct__law_row_due), sl__law_row_due⟩)
    (c__law_row_due : PySem.W.codeIn K cd__law_row_due "_law_row_due" = true)
    (k__law_row_due : PySem.W.keepIn K (.ref f__law_row_due) = true)
    (a__law_heard : PySem.W.nsIn K mainGlobals "_law_heard" = some (some (.ref f__law_heard)))
    (l__law_heard : K.lookup f__law_heard = some ⟨oc__law_heard, od__law_heard, .func (PySem.W.fnOf "_law_heard" "_law_heard" (defArgs s__law_heard) (defBody s__law_heard) (defScope s__law_heard) .none kV__law_heard dc__law_heard pm__law_heard an__law_heard cd__law_heard ct__law_heard), sl__law_heard⟩)
    (c__law_heard : PySem.W.codeIn K cd__law_heard "_law_heard" = true)
    (k__law_heard : PySem.W.keepIn K (.ref f__law_heard) = true)
    (a_law : PySem.W.nsIn K mainGlobals "law" = some (some (.ref f_law)))
    (l_law : K.lookup f_law = some ⟨oc_law, od_law, .func (PySem.W.fnOf "law" "law" (defArgs s_law) (defBody s_law) (defScope s_law) .none kV_law dc_law pm_law an_law cd_law ct_law), sl_law⟩)
    (c_law : PySem.W.codeIn K cd_law "law" = true)
    (k_law : PySem.W.keepIn K (.ref f_law) = true)
    (z_abs : PySem.W.nsIn K mainGlobals "abs" = some none)
    (z_all : PySem.W.nsIn K mainGlobals "all" = some none)
    (z_bool : PySem.W.nsIn K mainGlobals "bool" = some none)
    (z_enumerate : PySem.W.nsIn K mainGlobals "enumerate" = some none)
    (z_int : PySem.W.nsIn K mainGlobals "int" = some none)
    (z_isinstance : PySem.W.nsIn K mainGlobals "isinstance" = some none)
    (z_len : PySem.W.nsIn K mainGlobals "len" = some none)
    (z_max : PySem.W.nsIn K mainGlobals "max" = some none)
    (z_min : PySem.W.nsIn K mainGlobals "min" = some none)
    (z_range : PySem.W.nsIn K mainGlobals "range" = some none)
    (z_repr : PySem.W.nsIn K mainGlobals "repr" = some none)
    (z_str : PySem.W.nsIn K mainGlobals "str" = some none)
    (z_tuple : PySem.W.nsIn K mainGlobals "tuple" = some none)
    (z_zip : PySem.W.nsIn K mainGlobals "zip" = some none)
    (g_KINDS : PySem.W.nsIn K mainGlobals "KINDS" = some (some (.ref p_KINDS)))
    (gl_KINDS : K.lookup p_KINDS = some ⟨.type "tuple", dd_KINDS, .seq #[.str "word" t_KINDS_0, .str "number" t_KINDS_1] n_KINDS, sl_KINDS⟩)
    (g_MOST_COLUMNS : PySem.W.nsIn K mainGlobals "MOST_COLUMNS" = some (some (.int 6 t_MOST_COLUMNS)))
    : ∃ (fd : FuncData) (G : Nat → Addr), (∀ (s : Shared) (u : Value), BindsTo s fd ⟨[u], []⟩ [("_law_script", u)]) ∧ ∀ base : Heap, K.In base → base.Ns mainGlobals mg → FnG P w K mg base G 6 fa fd ["_law_script"] F_law := by
  have e := hfa.symm.trans (PySem.W.mg_of X G0 a_law)
  cases e
  have T : Txt K mg (gOf C_StreamError C_InvalidColumns) := {
    z_abs := PySem.W.mg_none_of X G0 z_abs
    z_all := PySem.W.mg_none_of X G0 z_all
    z_bool := PySem.W.mg_none_of X G0 z_bool
    z_enumerate := PySem.W.mg_none_of X G0 z_enumerate
    z_int := PySem.W.mg_none_of X G0 z_int
    z_isinstance := PySem.W.mg_none_of X G0 z_isinstance
    z_len := PySem.W.mg_none_of X G0 z_len
    z_max := PySem.W.mg_none_of X G0 z_max
    z_min := PySem.W.mg_none_of X G0 z_min
    z_range := PySem.W.mg_none_of X G0 z_range
    z_repr := PySem.W.mg_none_of X G0 z_repr
    z_str := PySem.W.mg_none_of X G0 z_str
    z_tuple := PySem.W.mg_none_of X G0 z_tuple
    z_zip := PySem.W.mg_none_of X G0 z_zip
    g_KINDS := ⟨_, V.ref p_KINDS, PySem.W.mg_of X G0 g_KINDS, rfl, fun _ _ _ _ _ => .tup (vs := [V.str "word", V.str "number"]) (.inr ⟨_, _, _, gl_KINDS, rfl, rfl, (by show 2 ≤ sizeLine; rw [sizeLine_eq]; decide), .cons ⟨_, rfl⟩ (.cons ⟨_, rfl⟩ (.nil))⟩) (.cons (.str _) (.cons (.str _) (.nil)))⟩
    g_MOST_COLUMNS := ⟨_, _, PySem.W.mg_of X G0 g_MOST_COLUMNS, (show RelV (.int 6) _ from ⟨_, rfl⟩), fun _ _ _ _ _ => .int _⟩
    mg_InvalidColumns := PySem.W.mg_of X G0 a_InvalidColumns
    mg_StreamError := PySem.W.mg_of X G0 a_StreamError
    xf_value := fun c hc => by
      simp only [xf_value, List.mem_cons, List.not_mem_nil, or_false] at hc
      subst hc
      · exact ⟨⟨ga_InvalidColumns, gg_InvalidColumns, eb_InvalidColumns, hd_InvalidColumns⟩, no_InvalidColumns⟩
    exm := fun c k b e => by
      unfold exmT at e
      split at e
      · cases e; exact exm_mk eb_InvalidColumns ic_InvalidColumns tc_InvalidColumns su_InvalidColumns_InvalidColumns
      · cases e; exact exm_mk eb_StreamError ic_StreamError tc_StreamError su_InvalidColumns_StreamError
      · cases e }
  have I_InvalidColumns := fun_mk (st := s_InvalidColumns) l_InvalidColumns c_InvalidColumns k_InvalidColumns
  have Q_is_word := fun_mk (st := s_is_word) l_is_word c_is_word k_is_word
  have Q_is_number := fun_mk (st := s_is_number) l_is_number c_is_number k_is_number
  have Q_is_column := fun_mk (st := s_is_column) l_is_column c_is_column k_is_column
  have Q_is_columns := fun_mk (st := s_is_columns) l_is_columns c_is_columns k_is_columns
  have Q_is_of_kind := fun_mk (st := s_is_of_kind) l_is_of_kind c_is_of_kind k_is_of_kind
  have Q_fits := fun_mk (st := s_fits) l_fits c_fits k_fits
  have Q_is_row := fun_mk (st := s_is_row) l_is_row c_is_row k_is_row
  have Q__law_pool := fun_mk (st := s__law_pool) l__law_pool c__law_pool k__law_pool
  have Q__law_take := fun_mk (st := s__law_take) l__law_take c__law_take k__law_take
  have Q__law_is_word := fun_mk (st := s__law_is_word) l__law_is_word c__law_is_word k__law_is_word
  have Q__law_is_number := fun_mk (st := s__law_is_number) l__law_is_number c__law_is_number k__law_is_number
  have Q__law_due := fun_mk (st := s__law_due) l__law_due c__law_due k__law_due
  have Q__law_row_due := fun_mk (st := s__law_row_due) l__law_row_due c__law_row_due k__law_row_due
  have Q__law_heard := fun_mk (st := s__law_heard) l__law_heard c__law_heard k__law_heard
  have Q_law := fun_mk (st := s_law) l_law c_law k_law
  refine ⟨PySem.W.fnOf "law" "law" (defArgs s_law) (defBody s_law) (defScope s_law) .none kV_law dc_law pm_law an_law cd_law ct_law, gOf C_StreamError C_InvalidColumns, fun s v => .of_eq rfl, fun base _ _ => ?_⟩
  have E_InvalidColumns : ExD P w K mg base (gOf C_StreamError C_InvalidColumns) 1 "InvalidColumns" "self" "value" f_InvalidColumns _ := ⟨⟨⟨_, _, _, _, _, _, _, _, _, _, _, _, _, _, _, x_InvalidColumns, rfl⟩, sa_InvalidColumns, eb_InvalidColumns, tc_InvalidColumns, kc_InvalidColumns⟩, i_InvalidColumns, ti_InvalidColumns, ok_init I_InvalidColumns ⟨rfl, rfl, rfl, by decide +kernel, rfl, by decide +kernel, by decide +kernel⟩ rfl (by first | exact Or.inl rfl | exact Or.inr (Or.inl rfl)) (by first | exact Or.inl rfl | exact Or.inr (Or.inl rfl)) (by decide) (by decide) (by decide) (by decide), I_InvalidColumns.binds (ps := ["self", "value"]) (fun _ _ _ _ _ _ us hl => match us, hl with | [_, _], _ => rfl), PySem.W.mg_of X G0 a_InvalidColumns, no_InvalidColumns⟩
  have D_is_word : DefA K mg "is_word" f_is_word _ ["value"] := ⟨PySem.W.mg_of X G0 a_is_word, k_is_word, Q_is_word.binds (ps := ["value"]) fun _ _ _ _ _ _ us hl => match us, hl with | [_], _ => rfl⟩
  have D_is_number : DefA K mg "is_number" f_is_number _ ["value"] := ⟨PySem.W.mg_of X G0 a_is_number, k_is_number, Q_is_number.binds (ps := ["value"]) fun _ _ _ _ _ _ us hl => match us, hl with | [_], _ => rfl⟩
  have D_is_column : DefA K mg "is_column" f_is_column _ ["value"] := ⟨PySem.W.mg_of X G0 a_is_column, k_is_column, Q_is_column.binds (ps := ["value"]) fun _ _ _ _ _ _ us hl => match us, hl with | [_], _ => rfl⟩
  have D_is_columns : DefA K mg "is_columns" f_is_columns _ ["value"] := ⟨PySem.W.mg_of X G0 a_is_columns, k_is_columns, Q_is_columns.binds (ps := ["value"]) fun _ _ _ _ _ _ us hl => match us, hl with | [_], _ => rfl⟩
  have D_is_of_kind : DefA K mg "is_of_kind" f_is_of_kind _ ["kind", "value"] := ⟨PySem.W.mg_of X G0 a_is_of_kind, k_is_of_kind, Q_is_of_kind.binds (ps := ["kind", "value"]) fun _ _ _ _ _ _ us hl => match us, hl with | [_, _], _ => rfl⟩
  have D_fits : DefA K mg "fits" f_fits _ ["columns", "value"] := ⟨PySem.W.mg_of X G0 a_fits, k_fits, Q_fits.binds (ps := ["columns", "value"]) fun _ _ _ _ _ _ us hl => match us, hl with | [_, _], _ => rfl⟩
  have D_is_row : DefA K mg "is_row" f_is_row _ ["columns", "value"] := ⟨PySem.W.mg_of X G0 a_is_row, k_is_row, Q_is_row.binds (ps := ["columns", "value"]) fun _ _ _ _ _ _ us hl => match us, hl with | [_, _], _ => rfl⟩
  have D__law_pool : DefA K mg "_law_pool" f__law_pool _ ["_law_script", "_law_k"] := ⟨PySem.W.mg_of X G0 a__law_pool, k__law_pool, Q__law_pool.binds (ps := ["_law_script", "_law_k"]) fun _ _ _ _ _ _ us hl => match us, hl with | [_, _], _ => rfl⟩
  have D__law_take : DefA K mg "_law_take" f__law_take _ ["_law_pool_here", "_law_wide"] := ⟨PySem.W.mg_of X G0 a__law_take, k__law_take, Q__law_take.binds (ps := ["_law_pool_here", "_law_wide"]) fun _ _ _ _ _ _ us hl => match us, hl with | [_, _], _ => rfl⟩
  have D__law_is_word : DefA K mg "_law_is_word" f__law_is_word _ ["_law_value"] := ⟨PySem.W.mg_of X G0 a__law_is_word, k__law_is_word, Q__law_is_word.binds (ps := ["_law_value"]) fun _ _ _ _ _ _ us hl => match us, hl with | [_], _ => rfl⟩
  have D__law_is_number : DefA K mg "_law_is_number" f__law_is_number _ ["_law_value"] := ⟨PySem.W.mg_of X G0 a__law_is_number, k__law_is_number, Q__law_is_number.binds (ps := ["_law_value"]) fun _ _ _ _ _ _ us hl => match us, hl with | [_], _ => rfl⟩
  have D__law_due : DefA K mg "_law_due" f__law_due _ ["_law_value"] := ⟨PySem.W.mg_of X G0 a__law_due, k__law_due, Q__law_due.binds (ps := ["_law_value"]) fun _ _ _ _ _ _ us hl => match us, hl with | [_], _ => rfl⟩
  have D__law_row_due : DefA K mg "_law_row_due" f__law_row_due _ ["_law_heads", "_law_row"] := ⟨PySem.W.mg_of X G0 a__law_row_due, k__law_row_due, Q__law_row_due.binds (ps := ["_law_heads", "_law_row"]) fun _ _ _ _ _ _ us hl => match us, hl with | [_, _], _ => rfl⟩
  have D__law_heard : DefA K mg "_law_heard" f__law_heard _ ["_law_value"] := ⟨PySem.W.mg_of X G0 a__law_heard, k__law_heard, Q__law_heard.binds (ps := ["_law_value"]) fun _ _ _ _ _ _ us hl => match us, hl with | [_], _ => rfl⟩
  have g_is_word := ok_is_word (w := w) (P := P) (base := base) T Q_is_word 
  have g_is_number := ok_is_number (w := w) (P := P) (base := base) T Q_is_number 
  have g_is_column := ok_is_column (w := w) (P := P) (base := base) T Q_is_column D_is_word g_is_word
  have g_is_columns := ok_is_columns (w := w) (P := P) (base := base) T Q_is_columns D_is_column g_is_column
  have g_is_of_kind := ok_is_of_kind (w := w) (P := P) (base := base) T Q_is_of_kind D_is_number g_is_number D_is_word g_is_word
  have g_fits := ok_fits (w := w) (P := P) (base := base) T Q_fits D_is_of_kind g_is_of_kind
  have g_is_row := ok_is_row (w := w) (P := P) (base := base) T Q_is_row D_is_columns g_is_columns E_InvalidColumns D_fits g_fits
  have g__law_pool := ok__law_pool (w := w) (P := P) (base := base) T Q__law_pool 
  have g__law_take := ok__law_take (w := w) (P := P) (base := base) T Q__law_take 
  have g__law_is_word := ok__law_is_word (w := w) (P := P) (base := base) T Q__law_is_word 
  have g__law_is_number := ok__law_is_number (w := w) (P := P) (base := base) T Q__law_is_number 
  have g__law_due := ok__law_due (w := w) (P := P) (base := base) T Q__law_due D__law_is_word g__law_is_word
  have g__law_row_due := ok__law_row_due (w := w) (P := P) (base := base) T Q__law_row_due D__law_is_word g__law_is_word D__law_is_number g__law_is_number
  have g__law_heard := ok__law_heard (w := w) (P := P) (base := base) T Q__law_heard D_is_row g_is_row
  exact ok_law T Q_law D__law_pool g__law_pool D_is_word g_is_word D__law_is_word g__law_is_word D__law_take g__law_take D_is_columns g_is_columns D__law_due g__law_due D__law_heard g__law_heard D_is_row g_is_row D__law_row_due g__law_row_due
end
end Kx

set_option Elab.async false
set_option linter.all false
set_option maxRecDepth 100000
set_option maxHeartbeats 1000000
namespace Kx
open PySem PySem.Spec L2 Pz
theorem atI0 {α : Type} (a b : α) : atI [a, b] 0 = some a := rfl
theorem atI1 {α : Type} (a b : α) : atI [a, b] 1 = some b := rfl
theorem ix0 : ixN 2 0 = some 0 := rfl
theorem ix1 : ixN 2 1 = some 1 := rfl
/-- the pool, one draw -/
def draw (p : Int × Int) (w : Int) : Int × (Int × Int) := if p.1 > 0 then (p.1 % w, (p.1 / w, p.2)) else
  let y := (p.2 * 48271 + 12345) % 2147483647
  (y * y % 2147483629 / 64 % w, (p.1, y))
def poolO (p : Int × Int) : SO := .lst [.int p.1, .int p.2]
theorem small_mod (y : Int) : smallI ((y * 48271 + 12345) % 2147483647) = true := by
  unfold smallI
  have h1 := Int.emod_nonneg (y * 48271 + 12345) (b := 2147483647) (by decide)
  have h2 := Int.emod_lt_of_pos (y * 48271 + 12345) (b := 2147483647) (by decide)
  simp only [decide_eq_true_eq]; omega
theorem take_is {h : Hs} {a : Nat} {p : Int × Int} {w : Int} (hp : h[a]? = some (poolO p)) (hw : 0 < w ∧ w < 1073741824) : F__law_take [.ref a, .int w] h = .ok (.int (draw p w).1) (h.set a (poolO (draw p w).2)) := by
  obtain ⟨x, y⟩ := p
  have ha : a < h.length := (List.getElem?_eq_some_iff.mp hp).1
  have s1 : smallI 48271 = true := by decide
  have s2 := small_mod y
  have gs : ∀ o, (h.set a o)[a]? = some o := fun o => List.getElem?_set_self ha
  unfold poolO at hp
  by_cases hx : x > 0
  · have e : b__law_take (startS 3 [.ref a, .int w]) h = .rt (.int (x % w)) (h.set a (.lst [.int (x / w), .int y])) := by
      simp [b__law_take, r__law_take_0, r__law_take_0_a_0, r__law_take_0_a_1, r__law_take_0_a_2, r__law_take_1, r__law_take_2, startS, sSeq, sIf, sAsg, sSetIx, sRet, rTB, rB, rVar, rC, oIx, oGt, oMod, oDiv, oSetIx, gNm, hp, hx, hw.1, hw.2, atI0, ix0, Out.bnd, Out.st, OS.seq]
    have : F__law_take [.ref a, .int w] h = .ok (.int (x % w)) (h.set a (.lst [.int (x / w), .int y])) := by
      unfold F__law_take mkF
      rw [if_neg (by simp [SV.mxs, SV.mx]), e]
      show Out.ok _ (gcV _ _ _) = _
      rw [gcV_same (by simp)]
    rw [this]; unfold draw; rw [if_pos hx]; rfl
  · have e : b__law_take (startS 3 [.ref a, .int w]) h = .rt (.int ((y * 48271 + 12345) % 2147483647 * ((y * 48271 + 12345) % 2147483647) % 2147483629 / 64 % w)) (h.set a (.lst [.int x, .int ((y * 48271 + 12345) % 2147483647)])) := by
      simp [b__law_take, r__law_take_0, r__law_take_0_a_0, r__law_take_0_a_1, r__law_take_0_a_2, r__law_take_1, r__law_take_2, startS, sSeq, sIf, sAsg, sSetIx, sRet, rTB, rB, rVar, rC, oIx, oGt, oMod, oDiv, oMul, oAdd, oSetIx, gNm, sNil, hp, hx, hw.1, hw.2, atI0, atI1, ix0, ix1, Out.bnd, Out.st, OS.seq, s1, s2, gs]
    have : F__law_take [.ref a, .int w] h = .ok (.int ((y * 48271 + 12345) % 2147483647 * ((y * 48271 + 12345) % 2147483647) % 2147483629 / 64 % w)) (h.set a (.lst [.int x, .int ((y * 48271 + 12345) % 2147483647)])) := by
      unfold F__law_take mkF
      rw [if_neg (by simp [SV.mxs, SV.mx]), e]
      show Out.ok _ (gcV _ _ _) = _
      rw [gcV_same (by simp)]
    rw [this]; unfold draw; rw [if_neg hx]; rfl
def cellN (ns : List Int) (k : Nat) : Int := if k < ns.length then ns.getD k 0 else 0
def absI (i : Int) : Int := if i < 0 then -i else i
def blend (c : Int) (k : Nat) : Int := (c % 2147483629 + 104729 * ((k : Int) + 1)) * ((k : Int) + 7) % 2147483629
theorem blend_small (c : Int) (k : Nat) : smallI (blend c k) = true := by
  unfold smallI blend
  have h1 := Int.emod_nonneg ((c % 2147483629 + 104729 * ((k : Int) + 1)) * ((k : Int) + 7)) (b := 2147483629) (by decide)
  have h2 := Int.emod_lt_of_pos ((c % 2147483629 + 104729 * ((k : Int) + 1)) * ((k : Int) + 7)) (b := 2147483629) (by decide)
  simp only [decide_eq_true_eq]; omega
theorem atI_scr {ns : List Int} {k : Nat} (hk : k < ns.length) : atI ns (k : Int) = some (ns.getD k 0) := by
  unfold atI ixN
  rw [if_pos (by omega), if_pos (by omega)]
  simp [hk]
section
variable {a b c d e f : Option SV} {h : Hs}
theorem pl0 : r__law_pool_0 [a, b, c, d, e, f] h = .nx [a, b, some (.int 0), d, e, f] h := rfl
theorem pl1 {ns : List Int} {k : Nat} {v : Int} (hc : (k < ns.length ∧ atI ns (k : Int) = some v) ∨ (¬ k < ns.length ∧ v = 0)) : r__law_pool_1 [some (.scr ns), some (.int k), some (.int 0), d, e, f] h = .nx [some (.scr ns), some (.int k), some (.int v), d, e, f] h := by
  rcases hc with ⟨hl, q⟩ | ⟨hl, rfl⟩
  · have hl' : (k : Int) < ns.length := by omega
    simp [r__law_pool_1, r__law_pool_1_a_0, sIf, sAsg, rTB, rB, rVar, rF, bLen2, bLen, oIx, oLt, gNm, lCons, lNil, Out.bnd, Out.st, hl, hl', q]
  · have hl' : ¬ (k : Int) < ns.length := by omega
    simp [r__law_pool_1, r__law_pool_1_a_0, sIf, sNil, rTB, rB, rVar, rF, bLen2, bLen, oIx, oLt, lCons, lNil, Out.bnd, Out.st, hl, hl']
theorem pl2 {v : Int} : r__law_pool_2 [a, b, some (.int v), d, e, f] h = .nx [a, b, some (.int v), some (.int (absI v)), e, f] h := rfl
theorem pl3 {v : Int} {k : Nat} (hk : k < 100) : r__law_pool_3 [a, some (.int k), some (.int v), d, e, f] h = .nx [a, some (.int k), some (.int v), d, some (.int (blend v k)), f] h := by
  have s1 : smallI 104729 = true := by decide
  have s2 : smallI ((k : Int) + 7) = true := by unfold smallI; simp only [decide_eq_true_eq]; omega
  simp [r__law_pool_3, sAsg, rB, rVar, rC, oMod, oMul, oAdd, gNm, Out.bnd, Out.st, s1, s2, blend]
theorem pl4 {v : Int} (hv : smallI v = true) : r__law_pool_4 [a, b, c, d, some (.int v), f] h = .nx [a, b, c, d, some (.int v), some (.int (v * v % 2147483629 * 48271 % 2147483647))] h := by
  have s4 : smallI 48271 = true := by decide
  simp [r__law_pool_4, sAsg, rB, rVar, rC, oMod, oMul, gNm, Out.bnd, Out.st, s4, hv]
def big18 (v : Int) : Int := if (10 : Int) ^ (18 : Nat) ≤ v then 1 else 0
theorem pl5 {v u : Int} : r__law_pool_5 [a, b, c, some (.int v), e, some (.int u)] h = .rt (.ref h.length) (h ++ [.lst [.int (v * big18 v), .int u]]) := by
  have s : smallI (big18 v) = true := by unfold big18; split <;> decide
  have q : (rF bInt (lCons (rB oGe (rVar 3) (rB oPow (rC (.int 10)) (rC (.int 18)))) lNil)) [a, b, c, some (.int v), e, some (.int u)] h = .ok (.int (big18 v)) h := by
    unfold big18
    by_cases hb : (10 : Int) ^ (18 : Nat) ≤ v
    · rw [if_pos hb]
      show (Out.ok (SV.int (if decide ((10 : Int) ^ (18 : Nat) ≤ v) = true then 1 else 0)) h) = _
      rw [if_pos (decide_eq_true hb)]
    · rw [if_neg hb]
      show (Out.ok (SV.int (if decide ((10 : Int) ^ (18 : Nat) ≤ v) = true then 1 else 0)) h) = _
      rw [if_neg (by simpa using hb)]
  have q2 : (rB oMul (rVar 3) (rF bInt (lCons (rB oGe (rVar 3) (rB oPow (rC (.int 10)) (rC (.int 18)))) lNil))) [a, b, c, some (.int v), e, some (.int u)] h = .ok (.int (v * big18 v)) h := by
    show ((rF bInt (lCons (rB oGe (rVar 3) (rB oPow (rC (.int 10)) (rC (.int 18)))) lNil)) [a, b, c, some (.int v), e, some (.int u)] h).bnd (fun b h => oMul (.int v) b h) = _
    rw [q]
    show oMul (.int v) (.int (big18 v)) h = _
    unfold oMul
    simp only [s, Bool.or_true, if_true]
  exact e_ret (e_lst (e_cons q2 (e_cons (e_var rfl) e_nil)) (show 2 ≤ 1000000 by decide))
end
def pool0 (c : Int) (k : Nat) : Int × Int := (absI c * big18 (absI c), blend c k * blend c k % 2147483629 * 48271 % 2147483647)
theorem poolC {ns : List Int} {k : Nat} {c : Int} (hk : k < 100) (hc : (k < ns.length ∧ atI ns (k : Int) = some c) ∨ (¬ k < ns.length ∧ c = 0)) (h : Hs) : b__law_pool (startS 6 [.scr ns, .int k]) h = .rt (.ref h.length) (h ++ [poolO (pool0 c k)]) := by
  have e : startS 6 [.scr ns, .int k] = [some (.scr ns), some (.int k), none, none, none, none] := rfl
  rw [e]
  unfold b__law_pool
  simp only [sSeq, pl0, OS.seq_nx, pl1 hc, pl2, pl3 hk, pl4 (blend_small c k), pl5]
  rfl
theorem pool_is {ns : List Int} {k : Nat} {c : Int} (hk : k < 100) (hc : (k < ns.length ∧ atI ns (k : Int) = some c) ∨ (¬ k < ns.length ∧ c = 0)) (h : Hs) : F__law_pool [.scr ns, .int k] h = .ok (.ref h.length) (h ++ [poolO (pool0 c k)]) := by
  have f : ∀ h, finF h (b__law_pool (startS 6 [.scr ns, .int k]) h) = .ok (.ref h.length) (h ++ [poolO (pool0 c k)]) := fun h => by
    rw [poolC hk hc]
    show Out.ok _ (gcV h (h.length + 1) _) = _
    rw [gcV_up (by omega)]
  unfold F__law_pool mkF
  rw [if_pos (by simp [SV.mxs, SV.mx]), f []]
  exact f h
/-- the pool's numbers are not negative -/
def PoolOk (p : Int × Int) : Prop := 0 ≤ p.1 ∧ 0 ≤ p.2
theorem pool0_ok (c : Int) (k : Nat) : PoolOk (pool0 c k) := by
  refine ⟨Int.mul_nonneg ?_ ?_, Int.emod_nonneg _ (by decide)⟩
  · unfold absI; split <;> omega
  · unfold big18; split <;> decide
theorem draw_ok {p : Int × Int} {w : Int} (hp : PoolOk p) (hw : 0 < w) : PoolOk (draw p w).2 ∧ 0 ≤ (draw p w).1 ∧ (draw p w).1 < w := by
  unfold draw
  split
  · exact ⟨⟨Int.ediv_nonneg hp.1 (by omega), hp.2⟩, Int.emod_nonneg _ (by omega), Int.emod_lt_of_pos _ hw⟩
  · exact ⟨⟨hp.1, Int.emod_nonneg _ (by decide)⟩, Int.emod_nonneg _ (by omega), Int.emod_lt_of_pos _ hw⟩
end Kx

set_option Elab.async false
set_option linter.all false
set_option maxRecDepth 100000
set_option maxHeartbeats 1000000
namespace Kx
open PySem PySem.Spec L2 Pz
/-! ### words: the texts that occur -/
def resB (r : Out SV) : Option Bool := match r with
  | .ok (.bl b) [] => some b
  | _ => none
theorem resB_eq {r : Out SV} {b : Bool} (e : resB r = some b) : r = .ok (.bl b) [] := by
  unfold resB at e
  split at e
  · cases e; rfl
  · cases e
def names : List Str := ["a", "aa", "aaa", "b", "bb", "bbb", "c", "cc", "ccc", "d", "dd", "ddd", "e", "ee", "eee", "f", "ff", "fff", "g", "gg", "ggg"]
def texts : List Str := names ++ (["abc", "zzzzzzzzzzzz", "", "A", "a1", "a b", "\na", "a\n", "word", "5", "number", "Word", "ab"] : List Str)
def isW (z : Str) : Bool := (resB (F__law_is_word [.str z] [])).getD false
def chkW (z : Str) : Bool := match resB (F_is_word [.str z] []), resB (F__law_is_word [.str z] []) with
  | some a, some b => a == b
  | _, _ => false
theorem texts_ok : texts.all chkW = true := by decide +kernel
theorem word_txt {z : Str} (hz : z ∈ texts) (h : Hs) : F_is_word [.str z] h = .ok (.bl (isW z)) h ∧ F__law_is_word [.str z] h = .ok (.bl (isW z)) h := by
  have c := List.all_eq_true.mp texts_ok z hz
  unfold chkW at c
  split at c
  · rename_i a b e1 e2
    have ab := beq_iff_eq.mp c
    subst ab
    have i : isW z = a := by unfold isW; rw [e2]; rfl
    rw [i]
    exact ⟨f_any rfl (resB_eq e1), f_any rfl (resB_eq e2)⟩
  · cases c
end Kx

set_option Elab.async false
set_option linter.all false
set_option maxRecDepth 100000
set_option maxHeartbeats 1000000
namespace Kx
open PySem PySem.Spec L2 Pz
theorem isi_ok {v : SV} {h : Hs} {t : TyS} {n : String} {r : Bool} (e1 : tyS h v = some t) (e2 : tB t (.b n) = some r) : bIsi tB [v, .ty n] h = .ok (.bl r) h := by
  simp only [bIsi, e1, clS, e2]
theorem f_ext {n : Nat} {body : SF} {vs : List SV} {v : SV} {h : Hs} (hv : v.mx = 0) (e : ∀ h, ∃ x, body (startS n vs) h = .rt v (h ++ x)) : mkF n body vs h = .ok v h := by
  obtain ⟨x, e1⟩ := e h
  obtain ⟨y, e2⟩ := e []
  exact f_back e1 (fun _ => e2) hv (by simp)
theorem f_same {n : Nat} {body : SF} {vs : List SV} {v : SV} {h : Hs} (hv : v.mx = 0) (e : ∀ h, body (startS n vs) h = .rt v h) : mkF n body vs h = .ok v h := f_ext hv fun h => ⟨[], by rw [e]; simp⟩
theorem e_isi {ra : EF} {σ : SEnv} {h h1 : Hs} {v : SV} {t : TyS} {n : String} {r : Bool} (ea : ra σ h = .ok v h1) (e1 : tyS h1 v = some t) (e2 : tB t (.b n) = some r) : rF (bIsi tB) (lCons ra (lCons (rC (.ty n)) lNil)) σ h = .ok (.bl r) h1 := by
  rw [e_F (e_cons ea (e_cons rfl e_nil))]; exact isi_ok e1 e2
theorem e_isiT {ra : EF} {σ : SEnv} {h h1 : Hs} {v : SV} {t : TyS} {n : String} {r : Bool} (ea : ra σ h = .ok v h1) (e1 : tyS h1 v = some t) (e2 : tB t (.b n) = some r) : rT (rF (bIsi tB) (lCons ra (lCons (rC (.ty n)) lNil))) σ h = .ok r h1 := e_T (e_isi ea e1 e2) rfl
theorem e_lenT {xs : List SV} {ra : EF} {σ : SEnv} {h h1 : Hs} (ea : ra σ h = .ok (.tup xs) h1) : rF bLen2 (lCons ra lNil) σ h = .ok (.int xs.length) h1 := by
  rw [e_F (e_cons ea e_nil)]; rfl
theorem e_chain1 {f g : SV → SV → Hs → Out SV} {ra rb rc : EF} {σ : SEnv} {h h1 h2 h3 h4 : Hs} {a b c : SV} (ea : ra σ h = .ok a h1) (eb : rb σ h1 = .ok b h2) (ef : f a b h2 = .ok (.bl true) h3) (ec : rc σ h3 = .ok c h4) : rChain f g ra rb rc σ h = g b c h4 := by
  unfold rChain
  rw [ea, Out.bnd_ok, eb, Out.bnd_ok, ef, Out.bnd_ok]
  show (rc σ h3).bnd (fun c h => g b c h) = _
  rw [ec, Out.bnd_ok]
theorem e_chain0 {f g : SV → SV → Hs → Out SV} {ra rb rc : EF} {σ : SEnv} {h h1 h2 h3 : Hs} {a b : SV} (ea : ra σ h = .ok a h1) (eb : rb σ h1 = .ok b h2) (ef : f a b h2 = .ok (.bl false) h3) : rChain f g ra rb rc σ h = .ok (.bl false) h3 := by
  unfold rChain
  rw [ea, Out.bnd_ok, eb, Out.bnd_ok, ef, Out.bnd_ok]
theorem tT : tB (.b "tuple") (.b "tuple") = some true := by decide +kernel
/-! ### the head of is_columns and of _law_due -/
def lenOk (n : Nat) : Bool := decide (1 ≤ n) && decide (n ≤ 6)
theorem cols_head {xs : List SV} {h : Hs} {σ : SEnv} (e0 : σ[0]? = some (some (.tup xs))) : (rOrT (rNotT (rT (rF (bIsi tB) (lCons (rVar 0) (lCons (rC (.ty "tuple")) lNil))))) (rNotT (rTB (rChain oLe oLe (rC (.int 1)) (rF bLen2 (lCons (rVar 0) lNil)) (rC v_MOST_COLUMNS))))) σ h = .ok (!lenOk xs.length) h := by
  rw [e_orT0 (e_notT (e_isiT (e_var e0) rfl tT))]
  refine e_notT (e_TB ?_)
  by_cases h1 : 1 ≤ xs.length
  · rw [e_chain1 (c := .int 6) rfl (e_lenT (e_var e0)) (h3 := h) ?_ rfl]
    · show Out.ok (SV.bl (decide ((xs.length : Int) ≤ 6))) h = _
      have q : decide ((xs.length : Int) ≤ 6) = lenOk xs.length := by
        unfold lenOk; rw [decide_eq_true h1, Bool.true_and]; exact decide_eq_decide.mpr (by omega)
      rw [q]
    · show Out.ok (SV.bl (decide ((1 : Int) ≤ xs.length))) h = _
      rw [decide_eq_true (by omega)]
  · rw [e_chain0 (h3 := h) rfl (e_lenT (e_var e0)) ?_]
    · have q : lenOk xs.length = false := by unfold lenOk; rw [decide_eq_false h1]; rfl
      rw [q]
    · show Out.ok (SV.bl (decide ((1 : Int) ≤ xs.length))) h = _
      rw [decide_eq_false (by omega)]
theorem due_head {xs : List SV} {h : Hs} {σ : SEnv} (e0 : σ[0]? = some (some (.tup xs))) : (rOrT (rNotT (rT (rF (bIsi tB) (lCons (rVar 0) (lCons (rC (.ty "tuple")) lNil))))) (rTB (rB oNotIn2 (rF bLen2 (lCons (rVar 0) lNil)) (rF bRng (lCons (rC (.int 1)) (lCons (rC (.int 7)) lNil)))))) σ h = .ok (!lenOk xs.length) h := by
  rw [e_orT0 (e_notT (e_isiT (e_var e0) rfl tT))]
  refine e_TB ?_
  rw [e_B (v := .rng 1 7) (e_lenT (e_var e0)) rfl]
  show Out.ok (SV.bl (!decide ((1 : Int) ≤ xs.length ∧ (xs.length : Int) < 7))) h = _
  have q : decide ((1 : Int) ≤ xs.length ∧ (xs.length : Int) < 7) = lenOk xs.length := by
    unfold lenOk
    rw [← Bool.decide_and]
    exact decide_eq_decide.mpr (by omega)
  rw [q]
theorem cols_off {xs : List SV} (hl : lenOk xs.length = false) (h : Hs) : F_is_columns [.tup xs] h = .ok (.bl false) h ∧ F__law_due [.tup xs] h = .ok (.bl false) h := by
  refine ⟨f_same rfl fun h => e_seqR ?_, f_same rfl fun h => e_seqR ?_⟩
  · have e := cols_head (xs := xs) (h := h) (σ := startS 4 [.tup xs]) rfl
    rw [hl] at e
    rw [show r_is_columns_0 = sIf _ _ _ from rfl, e_sif1 e]; rfl
  · have e := due_head (xs := xs) (h := h) (σ := startS 3 [.tup xs]) rfl
    rw [hl] at e
    rw [show r__law_due_0 = sIf _ _ _ from rfl, e_sif1 e]; rfl
/-- what is no tuple -/
theorem cols_no {v : SV} {h : Hs} {t : TyS} (e1 : ∀ h, tyS h v = some t ∨ v.mx ≠ 0) (e3 : tyS h v = some t) (e2 : tB t (.b "tuple") = some false) : F_is_columns [v] h = .ok (.bl false) h ∧ F__law_due [v] h = .ok (.bl false) h := by
  have go : ∀ h, tyS h v = some t → b_is_columns (startS 4 [v]) h = .rt (.bl false) h ∧ b__law_due (startS 3 [v]) h = .rt (.bl false) h := fun h e => by
    refine ⟨e_seqR ?_, e_seqR ?_⟩
    · rw [show r_is_columns_0 = sIf _ _ _ from rfl, e_sif1 (e_orT1 (e_notT (e_isiT (e_var rfl) e e2)))]; rfl
    · rw [show r__law_due_0 = sIf _ _ _ from rfl, e_sif1 (e_orT1 (e_notT (e_isiT (e_var rfl) e e2)))]; rfl
  have hz : SV.mxs [v] = 0 → v.mx = 0 := fun z => by simp [SV.mxs] at z; exact z
  exact ⟨f_back (go h e3).1 (fun z => (go [] ((e1 []).resolve_right fun q => q (hz z))).1) rfl (by simp), f_back (go h e3).2 (fun z => (go [] ((e1 []).resolve_right fun q => q (hz z))).2) rfl (by simp)⟩
end Kx

set_option Elab.async false
set_option linter.all false
set_option maxRecDepth 100000
set_option maxHeartbeats 1000000
namespace Kx
open PySem PySem.Spec L2 Pz
/-! ### the columns that occur -/
def pairsL : List SV := names.flatMap fun n => [.tup [.str n, .str "word"], .tup [.str n, .str "number"]]
def oddL : List SV := [.tup [.str "b", .str "Word"], .tup [.str "b"], .tup [.str "b", .str "word", .int 1], .non, .tup [.str "", .str "word"], .tup [.str "b", .non]]
def good (x : SV) : Bool := decide (x ∈ pairsL)
def chkC (x : SV) : Bool := resB (F_is_column [x] []) == some (good x)
theorem chkC_ok : (pairsL ++ oddL).all chkC = true := by decide +kernel
theorem els_mx : (pairsL ++ oddL).all (fun x => SV.mxs [x] == 0) = true := by decide +kernel
/-- an element of columns: one of these, or a list -/
def ElP (h : Hs) (x : SV) : Prop := x ∈ pairsL ++ oddL ∨ ∃ r ys, x = .ref r ∧ h[r]? = some (.lst ys)
theorem lT : tB (.b "list") (.b "tuple") = some false := by decide +kernel
theorem good_ref (r : Nat) : good (.ref r) = false := by
  unfold good
  refine decide_eq_false fun hm => ?_
  have := List.all_eq_true.mp els_mx _ (List.mem_append_left _ hm)
  simp [SV.mxs, SV.mx] at this
theorem is_col {h : Hs} {x : SV} (e : ElP h x) : F_is_column [x] h = .ok (.bl (good x)) h := by
  rcases e with e | ⟨r, ys, rfl, hr⟩
  · have c := List.all_eq_true.mp chkC_ok x e
    have m := List.all_eq_true.mp els_mx x e
    exact f_any (beq_iff_eq.mp m) (resB_eq (beq_iff_eq.mp c))
  · rw [good_ref]
    have z : SV.mxs [SV.ref r] ≠ 0 := by simp [SV.mxs, SV.mx]
    have hT : tyS h (.ref r) = some (.b "list") := by simp only [tyS, hr]
    have e : b_is_column (startS 3 [.ref r]) h = .rt (.bl false) h := by
      refine e_seqR ?_
      rw [show r_is_column_0 = sIf _ _ _ from rfl, e_sif1 (e_orT1 (e_notT (e_isiT (e_var rfl) hT lT)))]; rfl
    exact f_back (h2 := h) e (fun q => absurd q z) rfl (by simp)
theorem pairs_form : pairsL.all (fun x => match x with | .tup [.str n, .str k] => names.contains n && (k == "word" || k == "number") | _ => false) = true := by decide +kernel
def nm : SV → Str
  | .tup [.str n, _] => n
  | _ => ""
theorem good_form {x : SV} (e : good x = true) : ∃ n k, x = .tup [.str n, .str k] ∧ n ∈ names ∧ (k = "word" ∨ k = "number") := by
  have c := List.all_eq_true.mp pairs_form x (of_decide_eq_true e)
  split at c
  · rename_i n k
    simp only [Bool.and_eq_true, Bool.or_eq_true, beq_iff_eq, List.contains_iff_mem] at c
    exact ⟨n, k, rfl, c.1, c.2⟩
  · cases c
theorem e_lc {own : List Nat} {ri : IF} {g : GF} {tt : SEnv → Hs → Out Bool} {te : EF} {σ : SEnv} {h h1 : Hs} {xs : List SV} {chk : Hs → Bool} {ys : List SV} {h2 : Hs} (e1 : ri σ h = .ok (xs, chk) h1) (e2 : lcGo g tt te chk (wipeS σ own) xs h1 [] = .ok ys h2) : rLc own ri g tt te σ h = .ok (.ref h2.length) (h2 ++ [SO.lst ys]) := by
  unfold rLc
  rw [e1, Out.bnd_ok]
  show (match lcGo g tt te chk (wipeS σ own) xs h1 [] with | .ok acc h => Out.ok (SV.ref h.length) (h ++ [SO.lst acc]) | _ => .stuck) = _
  rw [e2]
theorem e_sc {own : List Nat} {ri : IF} {g : GF} {tt : SEnv → Hs → Out Bool} {te : EF} {σ : SEnv} {h h1 : Hs} {xs : List SV} {chk : Hs → Bool} {ys : List Key} {h2 : Hs} (e1 : ri σ h = .ok (xs, chk) h1) (e2 : scGo g tt te chk (wipeS σ own) xs h1 [] = .ok ys h2) : rSc own ri g tt te σ h = .ok (.ref h2.length) (h2 ++ [SO.set ys]) := by
  unfold rSc
  rw [e1, Out.bnd_ok]
  show (match scGo g tt te chk (wipeS σ own) xs h1 [] with | .ok acc h => Out.ok (SV.ref h.length) (h ++ [SO.set acc]) | _ => .stuck) = _
  rw [e2]
theorem e_seqT {ra : EF} {σ : SEnv} {h h1 : Hs} {xs : List SV} (ea : ra σ h = .ok (.tup xs) h1) : iSeq ra σ h = .ok (xs, fun _ => true) h1 := by unfold iSeq; rw [ea, Out.bnd_ok]
theorem bls_map (f : SV → Bool) : ∀ xs : List SV, blsS (xs.map fun x => SV.bl (f x)) = some (xs.map f)
  | [] => rfl
  | x :: xs => by simp only [List.map_cons, blsS]; rw [bls_map f xs]; rfl
/-- all(..) of is_columns -/
theorem cols_all {xs : List SV} {h : Hs} {b c d : Option SV} (hl : lenOk xs.length = true) (hx : ∀ x ∈ xs, ElP h x) : (rNotT (rT (rF bAll (lCons (rLc [1] (iSeq (rVar 0)) (gNm 1) tYesS (rCall F_is_column 1 [] (lCons (rVar 1) lNil))) lNil)))) [some (.tup xs), b, c, d] h = .ok (!xs.all good) (h ++ [.lst (xs.map fun x => SV.bl (good x))]) := by
  have hn : xs.length ≤ 6 := by unfold lenOk at hl; simp at hl; exact hl.2
  refine e_notT (e_T (v := .bl (xs.all good)) ?_ rfl)
  rw [e_F (e_cons (e_lc (ys := xs.map fun x => SV.bl (good x)) (h2 := h) (e_seqT (e_var rfl)) ?_) e_nil)]
  · unfold bAll
    dsimp only
    rw [List.getElem?_append_right (Nat.le_refl _), Nat.sub_self]
    simp only [List.getElem?_cons_zero, bls_map]
    rw [List.all_map]; rfl
  · have q := lc_map (g := gNm 1) (tt := tYesS) (te := rCall F_is_column 1 [] (lCons (rVar 1) lNil)) (chk := fun _ => true) (h := h) (σw := wipeS [some (.tup xs), b, c, d] [1]) (f := fun x => SV.bl (good x)) xs [] rfl (by simp; omega) fun x hm => ⟨_, h, rfl, rfl, by
      rw [e_call1 (e_var rfl)]; exact is_col (hx x hm), gcV_same rfl⟩
    simpa using q
end Kx

set_option Elab.async false
set_option linter.all false
set_option maxRecDepth 100000
set_option maxHeartbeats 1000000
namespace Kx
open PySem PySem.Spec L2 Pz
theorem eqv_int (a b : Int) : PyData.eqv (.int a) (.int b) = (a == b) := by first | rfl | simp [PyData.eqv]
theorem eqv_str (a b : Str) : PyData.eqv (.str a) (.str b) = (a == b) := by first | rfl | simp [PyData.eqv]
theorem sh_int (a : Int) : SeqAt.shaped (.int a) = true := by first | rfl | simp [SeqAt.shaped]
theorem o_eqI (a b : Int) (h : Hs) : oEq (.int a) (.int b) h = .ok (.bl (a == b)) h := by
  unfold oEq two
  show (if (SeqAt.shaped (.int a) && SeqAt.shaped (.int b)) = true then Out.ok (SV.bl (PyData.eqv (.int a) (.int b))) h else .stuck) = _
  rw [sh_int, sh_int, eqv_int]; rfl
theorem o_neI (a b : Int) (h : Hs) : oNe (.int a) (.int b) h = .ok (.bl (!(a == b))) h := by
  unfold oNe two
  show (if (SeqAt.shaped (.int a) && SeqAt.shaped (.int b)) = true then Out.ok (SV.bl (!PyData.eqv (.int a) (.int b))) h else .stuck) = _
  rw [sh_int, sh_int, eqv_int]; rfl
def keysF (xs : List SV) (acc : List Key) : List Key := xs.foldl (fun acc x => addK acc (.inr (nm x))) acc
theorem addK_le (ks : List Key) (k : Key) : (addK ks k).length ≤ ks.length + 1 := by
  rw [addK_len]; split <;> omega
theorem keysF_le : ∀ (xs : List SV) (acc : List Key), (keysF xs acc).length ≤ acc.length + xs.length
  | [], acc => by simp [keysF]
  | x :: xs, acc => by
    have a := keysF_le xs (addK acc (.inr (nm x)))
    have b := addK_le acc (.inr (nm x))
    show (keysF xs (addK acc (.inr (nm x)))).length ≤ _
    simp only [List.length_cons]; omega
theorem sc_names (a b : Option SV) (h : Hs) : ∀ (xs : List SV) (acc : List Key), (∀ x ∈ xs, good x = true) → acc.length + xs.length < 4000 → scGo (gTp 2 (gsC (gNm 2) (gsC (gNm 3) gsN))) tYesS (rVar 2) (fun _ => true) [a, b, none, none] xs h acc = .ok (keysF xs acc) h
  | [], acc, _, _ => rfl
  | x :: xs, acc, hx, hl => by
    obtain ⟨n, k, rfl, _, _⟩ := good_form (hx x (by simp))
    simp only [List.length_cons] at hl
    unfold scGo
    rw [if_pos ⟨rfl, by omega⟩]
    show scGo (gTp 2 (gsC (gNm 2) (gsC (gNm 3) gsN))) tYesS (rVar 2) (fun _ => true) [a, b, none, none] xs (gcV h 0 h) (addK acc (.inr n)) = _
    rw [gcV_same rfl]
    have := addK_le acc (.inr n)
    rw [sc_names a b h xs (addK acc (.inr n)) (fun y hy => hx y (by simp [hy])) (by omega)]
    rfl
/-- different names -/
def distB : List SV → List Str → Bool
  | [], _ => true
  | x :: xs, acc => !(acc.contains (nm x)) && distB xs (acc ++ [nm x])
theorem has_map (acc : List Str) (n : Str) : hasK (acc.map Sum.inr) (.inr n) = acc.contains n := by
  rw [Bool.eq_iff_iff, hasK_iff, List.contains_iff_mem]
  simp
theorem keys_dist : ∀ (xs : List SV) (acc : List Str), ((keysF xs (acc.map Sum.inr)).length = acc.length + xs.length ↔ distB xs acc = true)
  | [], acc => by simp [keysF, distB]
  | x :: xs, acc => by
    have e : keysF (x :: xs) (acc.map Sum.inr) = keysF xs (addK (acc.map Sum.inr) (.inr (nm x))) := rfl
    rw [e]
    unfold addK distB
    rw [has_map]
    cases hc : acc.contains (nm x) with
    | true =>
      rw [if_pos rfl]
      have a := keysF_le xs (acc.map Sum.inr)
      simp only [List.length_map, List.length_cons, Bool.not_true, Bool.false_and, Bool.false_eq_true, iff_false] at a ⊢
      omega
    | false =>
      rw [if_neg Bool.false_ne_true]
      have ih := keys_dist xs (acc ++ [nm x])
      rw [List.map_append] at ih
      simp only [List.length_append, List.length_cons, List.length_nil, List.map_cons, List.map_nil] at ih ⊢
      rw [show acc.length + (xs.length + 1) = acc.length + (0 + 1) + xs.length by omega, ih]
      simp
/-- is_columns of a tuple of these elements -/
def colsB (xs : List SV) : Bool := lenOk xs.length && (xs.all good && distB xs [])
theorem cols_on {xs : List SV} {h : Hs} (hx : ∀ x ∈ xs, ElP h x) (h0 : SV.mxs [SV.tup xs] = 0 → ∀ x ∈ xs, ElP [] x) : F_is_columns [.tup xs] h = .ok (.bl (colsB xs)) h := by
  unfold colsB
  cases hl : lenOk xs.length with
  | false => exact (cols_off hl h).1
  | true =>
    rw [Bool.true_and]
    have hn : xs.length ≤ 6 := by unfold lenOk at hl; simp at hl; exact hl.2
    have go : ∀ h, (∀ x ∈ xs, ElP h x) → ∃ y, b_is_columns (startS 4 [.tup xs]) h = .rt (.bl (xs.all good && distB xs [])) (h ++ y) := fun h hx => by
      have e1 := cols_head (xs := xs) (h := h) (σ := startS 4 [.tup xs]) rfl
      rw [hl] at e1
      have r0 : r_is_columns_0 (startS 4 [.tup xs]) h = .nx (startS 4 [.tup xs]) h := by rw [show r_is_columns_0 = sIf _ _ _ from rfl, e_sif0 e1]; rfl
      have ca := cols_all (b := none) (c := none) (d := none) hl hx
      show ∃ y, (sSeq r_is_columns_0 (sSeq r_is_columns_1 r_is_columns_2)) (startS 4 [.tup xs]) h = _
      rw [e_seq r0]
      cases ha : xs.all good with
      | false =>
        rw [ha] at ca
        refine ⟨[.lst (xs.map fun x => SV.bl (good x))], e_seqR ?_⟩
        rw [show r_is_columns_1 = sIf _ _ _ from rfl]
        exact (e_sif1 ca).trans rfl
      | true =>
        rw [ha] at ca
        have gx : ∀ x ∈ xs, good x = true := fun x hm => List.all_eq_true.mp ha x hm
        have r1 : r_is_columns_1 (startS 4 [.tup xs]) h = .nx (startS 4 [.tup xs]) (h ++ [.lst (xs.map fun x => SV.bl (good x))]) := by
          rw [show r_is_columns_1 = sIf _ _ _ from rfl]
          exact (e_sif0 ca).trans rfl
        rw [e_seq r1]
        generalize hh : h ++ [SO.lst (xs.map fun x => SV.bl (good x))] = h1
        have sc : rSc [2, 3] (iSeq (rVar 0)) (gTp 2 (gsC (gNm 2) (gsC (gNm 3) gsN))) tYesS (rVar 2) [some (.tup xs), none, none, none] h1 = .ok (.ref h1.length) (h1 ++ [.set (keysF xs [])]) :=
          e_sc (e_seqT (e_var rfl)) (sc_names _ _ h1 xs [] gx (by simp; omega))
        have kl := keysF_le xs []
        have ln : rF bLen2 (lCons (rSc [2, 3] (iSeq (rVar 0)) (gTp 2 (gsC (gNm 2) (gsC (gNm 3) gsN))) tYesS (rVar 2)) lNil) [some (.tup xs), none, none, none] h1 = .ok (.int (keysF xs []).length) (h1 ++ [.set (keysF xs [])]) := by
          rw [e_F (e_cons sc e_nil)]
          unfold bLen2
          dsimp only
          rw [List.getElem?_append_right (Nat.le_refl _), Nat.sub_self]
          simp only [List.getElem?_cons_zero]
          rw [if_pos (by simp at kl; omega)]
        refine ⟨[.lst (xs.map fun x => SV.bl (good x))] ++ [.set (keysF xs [])], ?_⟩
        rw [show r_is_columns_2 = sRet _ from rfl]
        refine (e_ret ((e_B ln (e_lenT (e_var rfl))).trans (o_eqI _ _ _))).trans ?_
        have kd := keys_dist xs []
        have q : (((keysF xs []).length : Int) == (xs.length : Int)) = distB xs [] := by
          rw [Bool.eq_iff_iff, beq_iff_eq]
          simp only [List.map_nil, List.length_nil] at kd
          exact ⟨fun z => kd.mp (by omega), fun z => by have := kd.mpr z; omega⟩
        rw [q, Bool.true_and, ← hh, List.append_assoc]
    obtain ⟨y, e⟩ := go h hx
    by_cases hz : SV.mxs [SV.tup xs] = 0
    · obtain ⟨y2, e2⟩ := go [] (h0 hz)
      exact f_back e (fun _ => e2) rfl (by simp)
    · exact f_back (h2 := h) e (fun q => absurd q hz) rfl (by simp)
end Kx

set_option Elab.async false
set_option linter.all false
set_option maxRecDepth 100000
set_option maxHeartbeats 1000000
namespace Kx
open PySem PySem.Spec L2 Pz
theorem strs_ok : (texts ++ (["word", "number"] : List Str)).all PySem.PyData.strOk = true := by decide +kernel
theorem names_texts {n : Str} (h : n ∈ names) : n ∈ texts := List.mem_append_left _ h
theorem lay_strs : ∀ acc : List Str, (∀ n ∈ acc, PySem.PyData.strOk n = true) → PyData.canLayAll0 (acc.map PyData.str) = true ∧ PyData.depthAll (acc.map PyData.str) = 0
  | [], _ => ⟨rfl, rfl⟩
  | n :: acc, h => by
    obtain ⟨a, b⟩ := lay_strs acc fun m hm => h m (by simp [hm])
    have c := h n (by simp)
    simp only [List.map_cons, PyData.canLayAll0, PyData.canLay0, PyData.depthAll, PyData.depth, a, b, c]
    exact ⟨rfl, rfl⟩
theorem toD_strs (h : Hs) (k : Nat) : ∀ acc : List Str, (acc.map SV.str).mapM (toD (k + 1) h) = some (acc.map PyData.str)
  | [] => rfl
  | n :: acc => by
    rw [List.map_cons, List.mapM_cons, toD_strs h k acc]; rfl
theorem in_acc {h : Hs} {a : Nat} {acc : List Str} {n : Str} (ha : h[a]? = some (.lst (acc.map SV.str))) (hn : PySem.PyData.strOk n = true) (hc : ∀ m ∈ acc, PySem.PyData.strOk m = true) : inS (.str n) (.ref a) h = some (acc.contains n) := by
  have sh1 : SeqAt.shaped (.str n) = true := by
    unfold SeqAt.shaped; simp [PyData.canLay0, hn, PyData.depth]
  obtain ⟨l1, l2⟩ := lay_strs acc hc
  have sh2 : SeqAt.shaped (.list (acc.map PyData.str)) = true := by
    unfold SeqAt.shaped; simp [PyData.canLay0, l1, PyData.depth, l2]
  simp only [inS, ha]
  rw [toD_strs h 28 acc]
  show (if (SeqAt.shaped (.str n) && SeqAt.shaped (.list (acc.map PyData.str))) = true then some ((acc.map PyData.str).any fun z => PyData.eqv z (.str n)) else none) = _
  rw [sh1, sh2, if_pos (show (true && true) = true from rfl), List.any_map]
  congr 1
  rw [Bool.eq_iff_iff, List.any_eq_true, List.contains_iff_mem]
  constructor
  · rintro ⟨m, hm, e⟩
    have e' : (m == n) = true := by rw [← eqv_str]; exact e
    rw [← beq_iff_eq.mp e']; exact hm
  · intro hm
    exact ⟨n, hm, by show PyData.eqv (.str n) (.str n) = true; rw [eqv_str]; simp⟩
theorem o_inA {h : Hs} {a : Nat} {acc : List Str} {n : Str} (ha : h[a]? = some (.lst (acc.map SV.str))) (hn : PySem.PyData.strOk n = true) (hc : ∀ m ∈ acc, PySem.PyData.strOk m = true) : oIn2 (.str n) (.ref a) h = .ok (.bl (acc.contains n)) h := by
  unfold oIn2 oIn
  simp only [in_acc ha hn hc]
theorem o_notinA {h : Hs} {a : Nat} {acc : List Str} {n : Str} (ha : h[a]? = some (.lst (acc.map SV.str))) (hn : PySem.PyData.strOk n = true) (hc : ∀ m ∈ acc, PySem.PyData.strOk m = true) : oNotIn2 (.str n) (.ref a) h = .ok (.bl (!acc.contains n)) h := by
  unfold oNotIn2 oNotIn
  simp only [in_acc ha hn hc]
theorem word_name {n : Str} (hn : n ∈ names) : isW n = true := by
  have c : names.all isW = true := by decide +kernel
  exact List.all_eq_true.mp c n hn
theorem sT : tB (.b "str") (.b "str") = some true := by decide +kernel
theorem nT : tB (.b "NoneType") (.b "tuple") = some false := by decide +kernel
theorem nS : tB (.b "NoneType") (.b "str") = some false := by decide +kernel
def wn (xs : List SV) (a : Nat) (x : SV) : SEnv := [some (.tup xs), some (.ref a), some x]
section
variable {xs : List SV} {a : Nat} {h : Hs} {acc : List Str}
/-- a turn of _law_due on a good pair -/
theorem due_new {n k : Str} (hn : n ∈ names) (hk : k = "word" ∨ k = "number") (ha : h[a]? = some (.lst (acc.map SV.str))) (hc : ∀ m ∈ acc, PySem.PyData.strOk m = true) (hz : acc.length < 100) :
    (sSeq r__law_due_2_a_0 (sSeq r__law_due_2_a_1 r__law_due_2_a_2)) (wn xs a (.tup [.str n, .str k])) h = if acc.contains n = true then .rt (.bl false) h else .nx (wn xs a (.tup [.str n, .str k])) ((h ++ [SO.lst [.str "word", .str "number"]]).set a (.lst ((acc ++ [n]).map SV.str))) := by
  have sn : PySem.PyData.strOk n = true := List.all_eq_true.mp strs_ok n (List.mem_append_left _ (names_texts hn))
  have x0 : rB oIx (rVar 2) (rC (.int 0)) (wn xs a (.tup [.str n, .str k])) h = .ok (.str n) h := (e_B (e_var rfl) rfl).trans rfl
  have x1 : ∀ h, rB oIx (rVar 2) (rC (.int 1)) (wn xs a (.tup [.str n, .str k])) h = .ok (.str k) h := fun h => (e_B (e_var rfl) rfl).trans rfl
  have t1 : rNotT (rT (rF (bIsi tB) (lCons (rVar 2) (lCons (rC (.ty "tuple")) lNil)))) (wn xs a (.tup [.str n, .str k])) h = .ok false h := e_notT (e_isiT (e_var rfl) rfl tT)
  have t2 : rTB (rB oNe (rF bLen2 (lCons (rVar 2) lNil)) (rC (.int 2))) (wn xs a (.tup [.str n, .str k])) h = .ok false h := e_TB ((e_B (e_lenT (e_var rfl)) rfl).trans (o_neI _ _ _))
  have t3 : rNotT (rT (rCall F__law_is_word 1 [] (lCons (rB oIx (rVar 2) (rC (.int 0))) lNil))) (wn xs a (.tup [.str n, .str k])) h = .ok false h := by
    have q : rCall F__law_is_word 1 [] (lCons (rB oIx (rVar 2) (rC (.int 0))) lNil) (wn xs a (.tup [.str n, .str k])) h = .ok (.bl true) h := by
      rw [e_call1 x0, (word_txt (names_texts hn) h).2, word_name hn]
    exact e_notT (e_T q rfl)
  have t4 : rTB (rB oIn2 (rB oIx (rVar 2) (rC (.int 0))) (rVar 1)) (wn xs a (.tup [.str n, .str k])) h = .ok (acc.contains n) h := e_TB ((e_B x0 (e_var rfl)).trans (o_inA ha sn hc))
  have c0 : ∀ b, acc.contains n = b → (rOrT (rNotT (rT (rF (bIsi tB) (lCons (rVar 2) (lCons (rC (.ty "tuple")) lNil))))) (rOrT (rTB (rB oNe (rF bLen2 (lCons (rVar 2) lNil)) (rC (.int 2)))) (rOrT (rNotT (rT (rCall F__law_is_word 1 [] (lCons (rB oIx (rVar 2) (rC (.int 0))) lNil)))) (rTB (rB oIn2 (rB oIx (rVar 2) (rC (.int 0))) (rVar 1)))))) (wn xs a (.tup [.str n, .str k])) h = .ok b h := fun b hb => by
    rw [e_orT0 t1, e_orT0 t2, e_orT0 t3, t4, hb]
  cases hb : acc.contains n with
  | true =>
    rw [if_pos rfl]
    refine e_seqR ?_
    rw [show r__law_due_2_a_0 = sIf _ _ _ from rfl, e_sif1 (c0 true hb)]; rfl
  | false =>
    rw [if_neg Bool.false_ne_true]
    have s0 : r__law_due_2_a_0 (wn xs a (.tup [.str n, .str k])) h = .nx (wn xs a (.tup [.str n, .str k])) h := by rw [show r__law_due_2_a_0 = sIf _ _ _ from rfl, e_sif0 (c0 false hb)]; rfl
    rw [e_seq s0]
    have u1 : rNotT (rT (rF (bIsi tB) (lCons (rB oIx (rVar 2) (rC (.int 1))) (lCons (rC (.ty "str")) lNil)))) (wn xs a (.tup [.str n, .str k])) h = .ok false h := e_notT (e_isiT (x1 h) rfl sT)
    have ll : rLst (lCons (rC (.str "word")) (lCons (rC (.str "number")) lNil)) (wn xs a (.tup [.str n, .str k])) h = .ok (.ref h.length) (h ++ [.lst [.str "word", .str "number"]]) := e_lst (e_cons rfl (e_cons rfl e_nil)) (by decide)
    have kk : PySem.PyData.strOk k = true := by
      rcases hk with rfl | rfl
      · exact List.all_eq_true.mp strs_ok _ (by simp)
      · exact List.all_eq_true.mp strs_ok _ (by simp)
    have u2 : rTB (rB oNotIn2 (rB oIx (rVar 2) (rC (.int 1))) (rLst (lCons (rC (.str "word")) (lCons (rC (.str "number")) lNil)))) (wn xs a (.tup [.str n, .str k])) h = .ok false (h ++ [.lst [.str "word", .str "number"]]) := by
      refine e_TB ((e_B (x1 h) ll).trans ?_)
      rw [o_notinA (acc := (["word", "number"] : List Str)) (by rw [List.getElem?_append_right (Nat.le_refl _), Nat.sub_self]; rfl) kk (fun m hm => List.all_eq_true.mp strs_ok m (List.mem_append_right _ hm))]
      rcases hk with rfl | rfl <;> rfl
    have s1 : r__law_due_2_a_1 (wn xs a (.tup [.str n, .str k])) h = .nx (wn xs a (.tup [.str n, .str k])) (h ++ [.lst [.str "word", .str "number"]]) := by
      rw [show r__law_due_2_a_1 = sIf _ _ _ from rfl, e_sif0 ((e_orT0 u1).trans u2)]; rfl
    rw [e_seq s1]
    have hl : a < h.length := (List.getElem?_eq_some_iff.mp ha).1
    have ha2 : (h ++ [SO.lst [SV.str "word", SV.str "number"]])[a]? = some (.lst (acc.map SV.str)) := by rw [List.getElem?_append_left hl]; exact ha
    have ap : rBM "list" mAppend (rVar 1) (lCons (rB oIx (rVar 2) (rC (.int 0))) lNil) (wn xs a (.tup [.str n, .str k])) (h ++ [.lst [.str "word", .str "number"]]) = .ok .non ((h ++ [SO.lst [.str "word", .str "number"]]).set a (.lst ((acc ++ [n]).map SV.str))) := by
      rw [e_BM (e_var rfl) (by simp only [isTy, ha2]; rfl) (e_cons ((e_B (e_var rfl) rfl).trans rfl) e_nil)]
      simp only [mAppend, ha2]
      rw [if_pos (by simp; omega), List.map_append]; rfl
    rw [show r__law_due_2_a_2 = sExpr _ from rfl]
    exact e_expr ap
end
end Kx

set_option Elab.async false
set_option linter.all false
set_option maxRecDepth 100000
set_option maxHeartbeats 1000000
namespace Kx
open PySem PySem.Spec L2 Pz
abbrev dueT : SF := sSeq r__law_due_2_a_0 (sSeq r__law_due_2_a_1 r__law_due_2_a_2)
section
variable {xs : List SV} {a : Nat} {h : Hs} {acc : List Str}
theorem due_stop {x : SV} {h1 : Hs} (e : (rOrT (rNotT (rT (rF (bIsi tB) (lCons (rVar 2) (lCons (rC (.ty "tuple")) lNil))))) (rOrT (rTB (rB oNe (rF bLen2 (lCons (rVar 2) lNil)) (rC (.int 2)))) (rOrT (rNotT (rT (rCall F__law_is_word 1 [] (lCons (rB oIx (rVar 2) (rC (.int 0))) lNil)))) (rTB (rB oIn2 (rB oIx (rVar 2) (rC (.int 0))) (rVar 1)))))) (wn xs a x) h = .ok true h1) : dueT (wn xs a x) h = .rt (.bl false) h1 := by
  refine e_seqR ?_
  rw [show r__law_due_2_a_0 = sIf _ _ _ from rfl, e_sif1 e]; rfl
theorem due_notup {x : SV} {t : TyS} (e1 : tyS h x = some t) (e2 : tB t (.b "tuple") = some false) : dueT (wn xs a x) h = .rt (.bl false) h := due_stop (e_orT1 (e_notT (e_isiT (e_var rfl) e1 e2)))
theorem due_len {ys : List SV} (hl : ((ys.length : Int) == 2) = false) : dueT (wn xs a (.tup ys)) h = .rt (.bl false) h := due_stop (by
  rw [e_orT0 (e_notT (e_isiT (e_var rfl) rfl tT))]
  exact e_orT1 (e_TB (((e_B (e_lenT (e_var rfl)) rfl).trans (o_neI _ _ _)).trans (by rw [hl]; rfl)))
  )
theorem b_text : ("b" : Str) ∈ names := by decide +kernel
theorem b_ok : PySem.PyData.strOk ("b" : Str) = true := by decide +kernel
theorem due_c0 {n : Str} {v : SV} (hn : n ∈ names) (ha : h[a]? = some (.lst (acc.map SV.str))) (hc : ∀ m ∈ acc, PySem.PyData.strOk m = true) : (rOrT (rNotT (rT (rF (bIsi tB) (lCons (rVar 2) (lCons (rC (.ty "tuple")) lNil))))) (rOrT (rTB (rB oNe (rF bLen2 (lCons (rVar 2) lNil)) (rC (.int 2)))) (rOrT (rNotT (rT (rCall F__law_is_word 1 [] (lCons (rB oIx (rVar 2) (rC (.int 0))) lNil)))) (rTB (rB oIn2 (rB oIx (rVar 2) (rC (.int 0))) (rVar 1)))))) (wn xs a (.tup [.str n, v])) h = .ok (acc.contains n) h := by
  have sn : PySem.PyData.strOk n = true := List.all_eq_true.mp strs_ok n (List.mem_append_left _ (names_texts hn))
  have x0 : rB oIx (rVar 2) (rC (.int 0)) (wn xs a (.tup [.str n, v])) h = .ok (.str n) h := (e_B (e_var rfl) rfl).trans rfl
  have t3 : rNotT (rT (rCall F__law_is_word 1 [] (lCons (rB oIx (rVar 2) (rC (.int 0))) lNil))) (wn xs a (.tup [.str n, v])) h = .ok false h := by
    have q : rCall F__law_is_word 1 [] (lCons (rB oIx (rVar 2) (rC (.int 0))) lNil) (wn xs a (.tup [.str n, v])) h = .ok (.bl true) h := by
      rw [e_call1 x0, (word_txt (names_texts hn) h).2, word_name hn]
    exact e_notT (e_T q rfl)
  rw [e_orT0 (e_notT (e_isiT (e_var rfl) rfl tT)), e_orT0 (e_TB ((e_B (e_lenT (e_var rfl)) rfl).trans (o_neI _ _ _))), e_orT0 t3]
  exact e_TB ((e_B x0 (e_var rfl)).trans (o_inA ha sn hc))
theorem due_word {v : SV} : dueT (wn xs a (.tup [.str "", v])) h = .rt (.bl false) h := due_stop (by
  have w : isW "" = false := by decide +kernel
  have m : ("" : Str) ∈ texts := by decide +kernel
  have x0 : rB oIx (rVar 2) (rC (.int 0)) (wn xs a (.tup [.str "", v])) h = .ok (.str "") h := (e_B (e_var rfl) rfl).trans rfl
  have q : rCall F__law_is_word 1 [] (lCons (rB oIx (rVar 2) (rC (.int 0))) lNil) (wn xs a (.tup [.str "", v])) h = .ok (.bl false) h := by rw [e_call1 x0, (word_txt m h).2, w]
  rw [e_orT0 (e_notT (e_isiT (e_var rfl) rfl tT)), e_orT0 (e_TB ((e_B (e_lenT (e_var rfl)) rfl).trans (o_neI _ _ _)))]
  exact e_orT1 (e_notT (e_T q rfl)))
theorem due_kind {v : SV} {h1 : Hs} (ha : h[a]? = some (.lst (acc.map SV.str))) (hc : ∀ m ∈ acc, PySem.PyData.strOk m = true)
    (e : (rOrT (rNotT (rT (rF (bIsi tB) (lCons (rB oIx (rVar 2) (rC (.int 1))) (lCons (rC (.ty "str")) lNil))))) (rTB (rB oNotIn2 (rB oIx (rVar 2) (rC (.int 1))) (rLst (lCons (rC (.str "word")) (lCons (rC (.str "number")) lNil)))))) (wn xs a (.tup [.str "b", v])) h = .ok true (h ++ h1)) : ∃ y, dueT (wn xs a (.tup [.str "b", v])) h = .rt (.bl false) (h ++ y) := by
  have c := due_c0 (xs := xs) (v := v) b_text ha hc
  cases hb : acc.contains ("b" : Str) with
  | true => rw [hb] at c; exact ⟨[], by rw [due_stop c]; simp⟩
  | false =>
    rw [hb] at c
    refine ⟨h1, ?_⟩
    have s0 : r__law_due_2_a_0 (wn xs a (.tup [.str "b", v])) h = .nx (wn xs a (.tup [.str "b", v])) h := by rw [show r__law_due_2_a_0 = sIf _ _ _ from rfl, e_sif0 c]; rfl
    refine (e_seq s0).trans (e_seqR ?_)
    rw [show r__law_due_2_a_1 = sIf _ _ _ from rfl, e_sif1 e]; rfl
theorem due_bad {x : SV} (hx : ElP h x) (hg : good x = false) (ha : h[a]? = some (.lst (acc.map SV.str))) (hc : ∀ m ∈ acc, PySem.PyData.strOk m = true) : ∃ y, dueT (wn xs a x) h = .rt (.bl false) (h ++ y) := by
  have one : ∀ {x : SV}, dueT (wn xs a x) h = .rt (.bl false) h → ∃ y, dueT (wn xs a x) h = .rt (.bl false) (h ++ y) := fun e => ⟨[], by rw [e]; simp⟩
  rcases hx with hx | ⟨r, ys, rfl, hr⟩
  · rcases List.mem_append.mp hx with hx | hx
    · unfold good at hg; rw [decide_eq_true hx] at hg; cases hg
    · simp only [oddL, List.mem_cons, List.not_mem_nil, or_false] at hx
      rcases hx with rfl | rfl | rfl | rfl | rfl | rfl
      · refine due_kind (h1 := [.lst [.str "word", .str "number"]]) ha hc ?_
        have x1 : rB oIx (rVar 2) (rC (.int 1)) (wn xs a (.tup [.str "b", .str "Word"])) h = .ok (.str "Word") h := (e_B (e_var rfl) rfl).trans rfl
        have ll : rLst (lCons (rC (.str "word")) (lCons (rC (.str "number")) lNil)) (wn xs a (.tup [.str "b", .str "Word"])) h = .ok (.ref h.length) (h ++ [.lst [.str "word", .str "number"]]) := e_lst (e_cons rfl (e_cons rfl e_nil)) (by decide)
        rw [e_orT0 (e_notT (e_isiT x1 rfl sT))]
        refine e_TB ((e_B x1 ll).trans ?_)
        rw [o_notinA (acc := (["word", "number"] : List Str)) (by rw [List.getElem?_append_right (Nat.le_refl _), Nat.sub_self]; rfl) (by decide +kernel) (fun m hm => List.all_eq_true.mp strs_ok m (List.mem_append_right _ hm))]
        rfl
      · exact one (due_len rfl)
      · exact one (due_len rfl)
      · exact one (due_notup rfl nT)
      · exact one due_word
      · refine due_kind (h1 := []) ha hc ?_
        have x1 : rB oIx (rVar 2) (rC (.int 1)) (wn xs a (.tup [.str "b", .non])) h = .ok .non h := (e_B (e_var rfl) rfl).trans rfl
        rw [List.append_nil]
        exact e_orT1 (e_notT (e_isiT x1 rfl nS))
  · exact one (due_notup (t := .b "list") (by simp only [tyS, hr]) lT)
end
theorem mx_els {h : Hs} : ∀ {xs : List SV}, (∀ x ∈ xs, ElP h x) → SV.mxs xs ≤ h.length
  | [], _ => Nat.zero_le _
  | x :: xs, hx => by
    have ih := mx_els fun y hy => hx y (List.mem_cons_of_mem _ hy)
    have a : x.mx ≤ h.length := by
      rcases hx x (by simp) with e | ⟨r, ys, rfl, hr⟩
      · have m := List.all_eq_true.mp els_mx x e
        have m2 := beq_iff_eq.mp m
        simp [SV.mxs] at m2
        rw [m2]; exact Nat.zero_le _
      · exact (List.getElem?_eq_some_iff.mp hr).1
    simp only [SV.mxs]; omega
theorem due_on {xs : List SV} {h : Hs} (hx : ∀ x ∈ xs, ElP h x) (h0 : SV.mxs [SV.tup xs] = 0 → ∀ x ∈ xs, ElP [] x) : F__law_due [.tup xs] h = .ok (.bl (colsB xs)) h := by
  unfold colsB
  cases hl : lenOk xs.length with
  | false => exact (cols_off hl h).2
  | true =>
    rw [Bool.true_and]
    have hn : xs.length ≤ 6 := by unfold lenOk at hl; simp at hl; exact hl.2
    have go : ∀ h, (∀ x ∈ xs, ElP h x) → ∃ h', b__law_due (startS 3 [.tup xs]) h = .rt (.bl (xs.all good && distB xs [])) h' ∧ h'.take h.length = h := fun h hx => by
      have e1 := due_head (xs := xs) (h := h) (σ := startS 3 [.tup xs]) rfl
      rw [hl] at e1
      have r0 : r__law_due_0 (startS 3 [.tup xs]) h = .nx (startS 3 [.tup xs]) h := by rw [show r__law_due_0 = sIf _ _ _ from rfl, e_sif0 e1]; rfl
      have r1 : r__law_due_1 (startS 3 [.tup xs]) h = .nx [some (.tup xs), some (.ref h.length), none] (h ++ [.lst []]) := (e_asgN (e_lst e_nil (by decide))).trans rfl
      show ∃ h', (sSeq r__law_due_0 (sSeq r__law_due_1 (sSeq r__law_due_2 r__law_due_3))) (startS 3 [.tup xs]) h = _ ∧ _
      rw [e_seq r0, e_seq r1]
      generalize hσ : ([some (.tup xs), some (.ref h.length), none] : SEnv) = σ1
      have key := for_ind (σ0 := σ1) (h0 := h ++ [.lst []]) (g := gNm 2) (r1 := dueT) (chk := fun _ => true)
        (fun xs' σ h' => ∃ acc u, σ = [some (.tup xs), some (.ref h.length), u] ∧ h'.take (h.length + 1) = h ++ [.lst (acc.map SV.str)] ∧ (∀ m ∈ acc, m ∈ names) ∧ acc.length + xs'.length ≤ 6 ∧ (∀ x ∈ xs', ElP h x) ∧ (xs.all good && distB xs []) = (xs'.all good && distB xs' acc))
        (fun σ h' => (xs.all good && distB xs []) = true ∧ h'.take h.length = h) (fun v h' => v = .bl false ∧ (xs.all good && distB xs []) = false ∧ h'.take h.length = h) ?_ ?_ xs σ1 (h ++ [.lst []]) ⟨[], none, hσ.symm, by rw [List.take_of_length_le (by simp)]; rfl, by simp, by simpa using hn, hx, rfl⟩
      · have ef : r__law_due_2 σ1 (h ++ [.lst []]) = forGo σ1 (h ++ [.lst []]) (gNm 2) dueT (fun _ => true) xs σ1 (h ++ [.lst []]) := e_for (e_seqT (e_var (by rw [← hσ]; rfl)))
        rcases key with ⟨σ', h', e, q1, q2⟩ | ⟨v, h', e, rfl, q1, q2⟩
        · exact ⟨h', by rw [e_seq (ef.trans e), q1]; rfl, q2⟩
        · exact ⟨h', by rw [e_seqR (ef.trans e), q1], q2⟩
      · rintro x rest σ h' ⟨acc, u, rfl, ht, hm, hlen, hxs, ans⟩
        refine ⟨rfl, wn xs h.length x, rfl, ?_⟩
        have hc : ∀ m ∈ acc, PySem.PyData.strOk m = true := fun m hm' => List.all_eq_true.mp strs_ok m (List.mem_append_left _ (names_texts (hm m hm')))
        have hlong : h.length + 1 ≤ h'.length := by have := congrArg List.length ht; simp at this; omega
        have ha : h'[h.length]? = some (.lst (acc.map SV.str)) := by
          have := congrArg (fun l => l[h.length]?) ht
          simp only [List.getElem?_take_of_lt (Nat.lt_succ_self _)] at this
          rw [this, List.getElem?_append_right (Nat.le_refl _), Nat.sub_self]; rfl
        have back : h'.take h.length = h := by
          have := congrArg (List.take h.length) ht
          rw [List.take_take, Nat.min_eq_left (Nat.le_succ _)] at this
          rw [this]; simp
        have ex : ElP h' x := by
          rcases hxs x (by simp) with e | ⟨r, ys, rfl, hr⟩
          · exact .inl e
          · refine .inr ⟨r, ys, rfl, ?_⟩
            have hrl := (List.getElem?_eq_some_iff.mp hr).1
            rw [← back, List.getElem?_take_of_lt hrl] at hr; exact hr
        simp only [List.length_cons] at hlen
        cases hg : good x with
        | false =>
          obtain ⟨y, e⟩ := due_bad (xs := xs) (a := h.length) ex hg ha hc
          refine .inr (.inr ⟨_, _, e, rfl, ?_, ?_⟩)
          · rw [ans]; simp [hg]
          · rw [List.take_append_of_le_length (by omega)]; exact back
        | true =>
          obtain ⟨n, k, rfl, hn1, hk⟩ := good_form hg
          have e := due_new (xs := xs) (a := h.length) hn1 hk ha hc (by omega)
          cases hb : acc.contains n with
          | true =>
            rw [hb, if_pos rfl] at e
            refine .inr (.inr ⟨_, _, e, rfl, ?_, back⟩)
            rw [ans]
            show (_ && (!(acc.contains n) && _)) = false
            rw [hb]; simp
          | false =>
            rw [hb, if_neg Bool.false_ne_true] at e
            refine .inl ⟨_, _, .inl e, ?_⟩
            have tk : ((h' ++ [SO.lst [SV.str "word", SV.str "number"]]).set h.length (.lst ((acc ++ [n]).map SV.str))).take (h.length + 1) = h ++ [.lst ((acc ++ [n]).map SV.str)] := by
              rw [List.take_set, List.take_append_of_le_length hlong, ht, List.set_append_right _ _ (Nat.le_refl _), Nat.sub_self]; rfl
            have an2 : (xs.all good && distB xs []) = (rest.all good && distB rest (acc ++ [n])) := by
              rw [ans]
              show ((good _ && rest.all good) && (!(acc.contains n) && distB rest (acc ++ [n]))) = _
              rw [hg, hb]; simp
            have st : ∀ (σ2 : SEnv) (h2 : Hs), σ2 = [some (.tup xs), some (.ref h.length), σ2.getD 2 none] → h2.take (h.length + 1) = h ++ [.lst ((acc ++ [n]).map SV.str)] → ∃ acc u, σ2 = [some (.tup xs), some (.ref h.length), u] ∧ h2.take (h.length + 1) = h ++ [.lst (acc.map SV.str)] ∧ (∀ m ∈ acc, m ∈ names) ∧ acc.length + rest.length ≤ 6 ∧ (∀ x ∈ rest, ElP h x) ∧ (xs.all good && distB xs []) = (rest.all good && distB rest acc) := fun σ2 h2 e1 e2 =>
              ⟨acc ++ [n], _, e1, e2, fun m hm' => by rcases List.mem_append.mp hm' with z | z; exact hm m z; rw [List.mem_singleton] at z; rw [z]; exact hn1, by simp; omega, fun y hy => hxs y (by simp [hy]), an2⟩
            unfold gcS
            split
            · refine st _ _ ?_ (by rw [List.take_take]; simpa using tk)
              rw [← hσ]
              have m1 : (SV.tup xs).mx ≤ (h ++ [SO.lst []]).length := by
                have := mx_els hx
                simp [SV.mx]; omega
              have m2 : (SV.ref h.length).mx ≤ (h ++ [SO.lst []]).length := by simp [SV.mx]
              show cutE (h ++ [SO.lst []]).length ([some (SV.tup xs), some (SV.ref h.length), none] : SEnv) ([some (SV.tup xs), some (SV.ref h.length), some (SV.tup [SV.str n, SV.str k])] : SEnv) = _
              simp only [cutE, if_pos m1, if_pos m2]
              rfl
            · exact st _ _ rfl tk
      · rintro σ h' ⟨acc, u, rfl, ht, hm, hlen, hxs, ans⟩
        refine ⟨rfl, by rw [ans]; rfl, ?_⟩
        have := congrArg (List.take h.length) ht
        rw [List.take_take, Nat.min_eq_left (Nat.le_succ _)] at this
        rw [this]; simp
    obtain ⟨h', e, t⟩ := go h hx
    by_cases hz : SV.mxs [SV.tup xs] = 0
    · obtain ⟨h2, e2, _⟩ := go [] (h0 hz)
      exact f_back e (fun _ => e2) rfl t
    · exact f_back (h2 := h) e (fun q => absurd q hz) rfl t
end Kx

set_option Elab.async false
set_option linter.all false
set_option maxRecDepth 100000
set_option maxHeartbeats 1000000
namespace Kx
open PySem PySem.Spec L2 Pz
/-- is_row of what is no columns -/
theorem row_exc {v : SV} {h : Hs} (e : F_is_columns [v] h = .ok (.bl false) h) (e0 : SV.mxs [v, SV.non] = 0 → F_is_columns [v] [] = .ok (.bl false) []) : F_is_row [v, .non] h = .exc 1 [("value", v)] h := by
  have go : ∀ h, F_is_columns [v] h = .ok (.bl false) h → b_is_row (startS 2 [v, .non]) h = .exc 1 [("value", v)] (startS 2 [v, .non]) h := fun h e => by
    have t : rNotT (rT (rCall F_is_columns 1 [] (lCons (rVar 0) lNil))) (startS 2 [v, .non]) h = .ok true h := e_notT (e_T ((e_call1 (e_var rfl)).trans e) rfl)
    have s0 : r_is_row_0 (startS 2 [v, .non]) h = .exc 1 [("value", v)] (startS 2 [v, .non]) h := by
      rw [show r_is_row_0 = sIf _ _ _ from rfl, e_sif1 t]; rfl
    show (sSeq r_is_row_0 r_is_row_1) (startS 2 [v, .non]) h = _
    unfold sSeq
    rw [s0]; rfl
  unfold F_is_row mkF
  by_cases hz : SV.mxs [v, SV.non] = 0
  · rw [if_pos hz, go [] (e0 hz)]
    have fm : fmx [(("value" : Str), v)] = 0 := by
      simp [SV.mxs, SV.mx] at hz
      simp [fmx, SV.mxs, hz]
    have q : finF [] (.exc 1 [("value", v)] (startS 2 [v, .non]) []) = .exc 1 [("value", v)] [] := by
      show Out.exc 1 _ (gcV [] _ []) = _
      rw [gcV_same rfl]
    rw [q]
  · rw [if_neg hz, go h e]
    show Out.exc 1 _ (gcV h _ h) = _
    rw [gcV_same rfl]
/-- .. and what _law_heard makes of it -/
theorem heard_is {v : SV} {z : Str} {h : Hs} (e : F_is_columns [v] h = .ok (.bl false) h) (e0 : SV.mxs [v, SV.non] = 0 → F_is_columns [v] [] = .ok (.bl false) []) (hr : ∀ x, bRepr2 [v] (h ++ x) = .ok (.str z) (h ++ x)) (hr0 : SV.mxs [v] = 0 → ∀ x, bRepr2 [v] x = .ok (.str z) x) : F__law_heard [v] h = .ok (.str z) h := by
  have go : ∀ h, F_is_row [v, .non] h = .exc 1 [("value", v)] h → (∀ x, bRepr2 [v] (h ++ x) = .ok (.str z) (h ++ x)) → b__law_heard (startS 2 [v]) h = .rt (.str z) (h ++ [.exc 1 [("value", v)]]) := fun h er hr => by
    refine e_seqR ?_
    have b : sExpr (rCall F_is_row 2 [] (lCons (rVar 0) (lCons (rC .non) lNil))) (startS 2 [v]) h = .exc 1 [("value", v)] (startS 2 [v]) h := by
      unfold sExpr
      rw [e_call2 (e_var rfl) rfl, er]; rfl
    have xf : rXf xf_value "value" (rVar 1) [some v, some (.xn 1 h.length)] (h ++ [.exc 1 [("value", v)]]) = .ok v (h ++ [.exc 1 [("value", v)]]) := by
      unfold rXf
      rw [e_var rfl, Out.bnd_ok]
      dsimp only
      rw [List.getElem?_append_right (Nat.le_refl _), Nat.sub_self]
      simp only [List.getElem?_cons_zero]
      rw [if_pos (by decide)]
      simp [List.lookup]
    have rp : sRet (rF bRepr2 (lCons (rXf xf_value "value" (rVar 1)) lNil)) [some v, some (.xn 1 h.length)] (h ++ [.exc 1 [("value", v)]]) = .rt (.str z) (h ++ [.exc 1 [("value", v)]]) := e_ret ((e_F (e_cons xf e_nil)).trans (hr _))
    unfold r__law_heard_0 sTry
    rw [b]
    show endO (some 1) (sRet (rF bRepr2 (lCons (rXf xf_value "value" (rVar 1)) lNil)) [some v, some (.xn 1 h.length)] (h ++ [.exc 1 [("value", v)]])) = _
    rw [rp]; rfl
  have r1 := go h (row_exc e e0) hr
  refine f_back r1 (h2 := [.exc 1 [("value", v)]]) (fun hz => ?_) rfl (by simp)
  have hz2 : SV.mxs [v, SV.non] = 0 := by simp [SV.mxs, SV.mx] at hz ⊢; exact hz
  have := go [] (row_exc (e0 hz2) e0) (fun x => by rw [List.nil_append]; exact hr0 hz x)
  exact this
end Kx

set_option Elab.async false
set_option linter.all false
set_option maxRecDepth 100000
set_option maxHeartbeats 1000000
namespace Kx
open PySem PySem.Spec L2 Pz
/-! ### repr: the heap may grow -/
theorem toD_app : ∀ (n : Nat) (h x : Hs) (v : SV) (d : PyData), toD n h v = some d → toD n (h ++ x) v = some d
  | 0, _, _, _, _, e => by simp [toD] at e
  | n + 1, h, x, v, d, e => by
    have all : ∀ (ys : List SV) (ds : List PyData), ys.mapM (toD n h) = some ds → ys.mapM (toD n (h ++ x)) = some ds := by
      intro ys
      induction ys with
      | nil => intro ds e; exact e
      | cons y ys ih =>
        intro ds e
        rw [List.mapM_cons] at e ⊢
        cases e1 : toD n h y with
        | none => rw [e1] at e; simp at e
        | some d1 =>
          cases e2 : ys.mapM (toD n h) with
          | none => rw [e1, e2] at e; simp at e
          | some d2 =>
            rw [e1, e2] at e
            rw [toD_app n h x y d1 e1, ih d2 e2]; exact e
    cases v with
    | tup ys =>
      simp only [toD, Option.map_eq_some_iff] at e ⊢
      obtain ⟨ds, e1, e2⟩ := e
      exact ⟨ds, all ys ds e1, e2⟩
    | ref a =>
      simp only [toD] at e ⊢
      split at e
      · rename_i ys e0
        have hl := (List.getElem?_eq_some_iff.mp e0).1
        rw [List.getElem?_append_left hl, e0]
        simp only [Option.map_eq_some_iff] at e ⊢
        obtain ⟨ds, e1, e2⟩ := e
        exact ⟨ds, all ys ds e1, e2⟩
      · cases e
    | non => simpa [toD] using e
    | bl b => simpa [toD] using e
    | int i => simpa [toD] using e
    | str z => simpa [toD] using e
    | obj c => simp [toD] at e
    | ty t => simp [toD] at e
    | scr ns => simpa [toD] using e
    | xn c j => simp [toD] at e
    | rng a b => simp [toD] at e
/-- data that can be shown -/
structure DOk (d : PyData) : Prop where
  sh : d.showable = true
  nd : d.hasDict = false
  dp : d.depth ≤ 60
  ln : d.shown.length ≤ 10000
  so : PySem.PyData.strOk d.shown = true
theorem toD_dct {h : Hs} {a : Nat} {kvs : List (Key × SV)} (n : Nat) (e : h[a]? = some (.dct kvs)) : toD (n + 1) h (.ref a) = none := by simp only [toD, e]
theorem repr_ok {h : Hs} {v : SV} {d : PyData} (e : toD 30 h v = some d) (k : DOk d) (x : Hs) : bRepr2 [v] (h ++ x) = .ok (.str d.shown) (h ++ x) := by
  have e2 := toD_app 30 h x v d e
  have q : bRepr [v] (h ++ x) = .ok (.str d.shown) (h ++ x) := by
    have c : d.showable = true ∧ d.hasDict = false ∧ d.depth ≤ 64 ∧ d.shown.length ≤ 16777216 := ⟨k.sh, k.nd, Nat.le_trans k.dp (by decide), Nat.le_trans k.ln (by decide)⟩
    unfold bRepr
    simp only [e2]
    rw [if_pos c]
  unfold bRepr2
  cases v with
  | ref a =>
    dsimp only
    cases e0 : (h ++ x)[a]? with
    | none => exact q
    | some o =>
      cases o with
      | dct kvs =>
        cases kvs with
        | nil => exact absurd ((toD_dct 29 e0).symm.trans e2) (by simp)
        | cons p ps => exact q
      | _ => exact q
  | _ => exact q
/-! ### lists and tuples of such -/
def sumL : List Str → Nat
  | [] => 0
  | t :: ts => t.length + 2 + sumL ts
theorem from_le : ∀ (ts : List Str) (k : Nat) (acc : Str), (textFrom k acc ts).length ≤ acc.length + sumL ts
  | [], k, acc => by simp [textFrom, sumL]
  | t :: r, k, acc => by
    have ih := from_le r (k + 1) (acc ++ (if k > 0 then ", " else "" : String) ++ t)
    have e : (acc ++ (if k > 0 then ", " else "" : String) ++ t).length ≤ acc.length + 2 + t.length := by
      rw [strLen_append, strLen_append]
      split
      · have : ((", " : String) : Str).length = 2 := rfl
        omega
      · have : (("" : String) : Str).length = 0 := rfl
        omega
    show (textFrom (k + 1) (acc ++ (if k > 0 then ", " else "" : String) ++ t) r).length ≤ _
    simp only [sumL]; omega
theorem join_le : ∀ ts : List Str, (Str.join ", " ts).length ≤ sumL ts
  | [] => Nat.zero_le _
  | [x] => by show x.length ≤ x.length + 2 + 0; omega
  | x :: y :: r => by
    have ih := join_le (y :: r)
    show (x ++ ", " ++ Str.join ", " (y :: r)).length ≤ _
    rw [strLen_append, strLen_append]
    have : ((", " : String) : Str).length = 2 := rfl
    simp only [sumL] at ih ⊢; omega
theorem sumL_le {n : Nat} : ∀ {ds : List PyData}, (∀ d ∈ ds, d.shown.length ≤ n) → sumL (PyData.shownAll ds) ≤ ds.length * (n + 2)
  | [], _ => Nat.zero_le _
  | d :: ds, h => by
    have ih := sumL_le (n := n) fun e he => h e (List.mem_cons_of_mem _ he)
    have a := h d (by simp)
    simp only [PyData.shownAll, sumL, List.length_cons, Nat.add_mul]
    omega
theorem all_sh : ∀ {ds : List PyData}, (∀ d ∈ ds, d.showable = true ∧ d.hasDict = false ∧ d.depth ≤ 50) → PyData.showableAll ds = true ∧ PyData.hasDictAll ds = false ∧ PyData.depthAll ds ≤ 50
  | [], _ => ⟨rfl, rfl, Nat.zero_le _⟩
  | d :: ds, h => by
    obtain ⟨a, b, c⟩ := all_sh fun e he => h e (List.mem_cons_of_mem _ he)
    obtain ⟨a1, b1, c1⟩ := h d (by simp)
    simp only [PyData.showableAll, PyData.hasDictAll, PyData.depthAll, a, b, a1, b1]
    exact ⟨rfl, rfl, Nat.max_le.mpr ⟨c1, c⟩⟩
/-- a part -/
structure POk (d : PyData) : Prop where
  sh : d.showable = true
  nd : d.hasDict = false
  dp : d.depth ≤ 50
  ln : d.shown.length ≤ 200
  so : PySem.PyData.strOk d.shown = true
theorem so_app (a b : Str) : PySem.PyData.strOk (a ++ b) = (PySem.PyData.strOk a && PySem.PyData.strOk b) := by
  show (a.cps ++ b.cps).all _ = _
  rw [Array.all_append]; rfl
theorem so_from : ∀ (ts : List Str) (k : Nat) (acc : Str), PySem.PyData.strOk acc = true → (∀ t ∈ ts, PySem.PyData.strOk t = true) → PySem.PyData.strOk (textFrom k acc ts) = true
  | [], k, acc, h, _ => h
  | t :: r, k, acc, h, ht => by
    refine so_from r (k + 1) (acc ++ (if k > 0 then ", " else "" : String) ++ t) ?_ fun u hu => ht u (by simp [hu])
    rw [so_app, so_app, h, ht t (by simp)]
    split <;> decide +kernel
theorem so_join : ∀ ts : List Str, (∀ t ∈ ts, PySem.PyData.strOk t = true) → PySem.PyData.strOk (Str.join ", " ts) = true
  | [], _ => by decide +kernel
  | [x], h => h x (by simp)
  | x :: y :: r, h => by
    have ih := so_join (y :: r) fun t ht => h t (by simp [ht])
    show PySem.PyData.strOk (x ++ ", " ++ Str.join ", " (y :: r)) = true
    rw [so_app, so_app, h x (by simp), ih]
    decide +kernel
theorem so_all : ∀ {ds : List PyData}, (∀ d ∈ ds, PySem.PyData.strOk d.shown = true) → ∀ t ∈ PyData.shownAll ds, PySem.PyData.strOk t = true
  | [], _, t, ht => by simp [PyData.shownAll] at ht
  | d :: ds, h, t, ht => by
    simp only [PyData.shownAll, List.mem_cons] at ht
    rcases ht with rfl | ht
    · exact h d (by simp)
    · exact so_all (fun e he => h e (by simp [he])) t ht
theorem list_ok {ds : List PyData} (h : ∀ d ∈ ds, POk d) (hl : ds.length ≤ 20) : DOk (.list ds) ∧ DOk (.tuple ds) := by
  obtain ⟨a, b, c⟩ := all_sh fun d hd => ⟨(h d hd).sh, (h d hd).nd, (h d hd).dp⟩
  have s := sumL_le (n := 200) fun d hd => (h d hd).ln
  have t := from_le (PyData.shownAll ds) 0 "["
  have u := join_le (PyData.shownAll ds)
  have m : ds.length * (200 + 2) ≤ 20 * 202 := Nat.mul_le_mul_right _ hl
  refine ⟨⟨by simpa [PyData.showable] using a, by simpa [PyData.hasDict] using b, by simp only [PyData.depth]; omega, ?_, ?_⟩, ⟨by simpa [PyData.showable] using a, by simpa [PyData.hasDict] using b, by simp only [PyData.depth]; omega, ?_, ?_⟩⟩
  · simp only [PyData.shown, listText]
    rw [strLen_append]
    have e1 : (("[" : String) : Str).length = 1 := rfl
    have e2 : (("]" : String) : Str).length = 1 := rfl
    omega
  · simp only [PyData.shown, listText]
    rw [so_app, so_from _ _ _ (by decide +kernel) (so_all fun d hd => (h d hd).so)]
    decide +kernel
  · simp only [PyData.shown, tupleText]
    rw [strLen_append, strLen_append]
    have e1 : (("(" : String) : Str).length = 1 := rfl
    have e2 : ((if (PyData.shownAll ds).length == 1 then ",)" else ")" : String) : Str).length ≤ 2 := by split <;> decide
    omega
  · simp only [PyData.shown, tupleText]
    rw [so_app, so_app, so_join _ (so_all fun d hd => (h d hd).so)]
    split <;> decide +kernel
end Kx

set_option Elab.async false
set_option linter.all false
set_option maxRecDepth 100000
set_option maxHeartbeats 1000000
namespace Kx
open PySem PySem.Spec L2 Pz
theorem toD_tup (n : Nat) (h : Hs) (xs : List SV) {ds : List PyData} (e : xs.mapM (toD n h) = some ds) : toD (n + 1) h (.tup xs) = some (.tuple ds) := by
  have q : toD (n + 1) h (.tup xs) = (xs.mapM (toD n h)).map .tuple := by rw [toD]
  rw [q, e]; rfl
theorem toD_tup' (n : Nat) (h : Hs) (xs : List SV) {ds : List PyData} (e : toD (n + 1) h (.tup xs) = some (.tuple ds)) : xs.mapM (toD n h) = some ds := by
  have q : toD (n + 1) h (.tup xs) = (xs.mapM (toD n h)).map .tuple := by rw [toD]
  rw [q, Option.map_eq_some_iff] at e
  obtain ⟨d, e1, e2⟩ := e
  cases e2; exact e1
theorem toD_lst (n : Nat) (h : Hs) (a : Nat) (xs : List SV) {ds : List PyData} (ha : h[a]? = some (.lst xs)) (e : xs.mapM (toD n h) = some ds) : toD (n + 1) h (.ref a) = some (.list ds) := by
  have q : toD (n + 1) h (.ref a) = (xs.mapM (toD n h)).map .list := by rw [toD]; simp only [ha]
  rw [q, e]; rfl
/-! ### the values that are held against is_columns -/
def chkD (x : SV) : Bool := match toD 29 [] x with
  | some d => d.showable && !d.hasDict && decide (d.depth ≤ 50) && decide (d.shown.length ≤ 200) && PySem.PyData.strOk d.shown
  | none => false
theorem chkD_ok : (pairsL ++ oddL).all chkD = true := by decide +kernel
def bw : List SV := [.str "b", .str "word"]
/-- an element: one of the finite ones, or the list ["b", "word"] -/
def ElQ (h : Hs) (x : SV) : Prop := x ∈ pairsL ++ oddL ∨ ∃ r, x = .ref r ∧ h[r]? = some (.lst bw)
theorem ElQ.p {h : Hs} {x : SV} (e : ElQ h x) : ElP h x := e.imp id fun ⟨r, a, b⟩ => ⟨r, bw, a, b⟩
theorem ElQ.app {h y : Hs} {x : SV} (e : ElQ h x) : ElQ (h ++ y) x := e.imp id fun ⟨r, a, b⟩ => ⟨r, a, by rw [List.getElem?_append_left (List.getElem?_eq_some_iff.mp b).1]; exact b⟩
theorem el_data {h : Hs} {x : SV} (e : ElQ h x) : ∃ d, toD 29 h x = some d ∧ POk d := by
  rcases e with e | ⟨r, rfl, hr⟩
  · have c := List.all_eq_true.mp chkD_ok x e
    unfold chkD at c
    split at c
    · rename_i d ed
      simp only [Bool.and_eq_true, Bool.not_eq_true', decide_eq_true_eq] at c
      exact ⟨d, by have := toD_app 29 [] h x d ed; simpa using this, c.1.1.1.1, c.1.1.1.2, c.1.1.2, c.1.2, c.2⟩
    · cases c
  · refine ⟨.list [.str "b", .str "word"], toD_lst 28 h r bw hr rfl, rfl, rfl, by decide, by decide +kernel, by decide +kernel⟩
theorem els_data {h : Hs} : ∀ {xs : List SV}, (∀ x ∈ xs, ElQ h x) → ∃ ds, xs.mapM (toD 29 h) = some ds ∧ (∀ d ∈ ds, POk d) ∧ ds.length = xs.length
  | [], _ => ⟨[], rfl, by simp, rfl⟩
  | x :: xs, hx => by
    obtain ⟨d, e1, k1⟩ := el_data (hx x (by simp))
    obtain ⟨ds, e2, k2, l2⟩ := els_data fun y hy => hx y (List.mem_cons_of_mem _ hy)
    refine ⟨d :: ds, by rw [List.mapM_cons, e1, e2]; rfl, fun c hc => ?_, by simp [l2]⟩
    rcases List.mem_cons.mp hc with rfl | hc
    · exact k1
    · exact k2 c hc
/-- what is asked of a value: both say c; where they say no, _law_heard says its repr -/
structure VOk (h : Hs) (v : SV) : Prop where
  ok : ∃ c z, PySem.PyData.strOk z = true ∧ (∀ y, F_is_columns [v] (h ++ y) = .ok (.bl c) (h ++ y)) ∧ (∀ y, F__law_due [v] (h ++ y) = .ok (.bl c) (h ++ y)) ∧ (c = false → ∀ y, F__law_heard [v] (h ++ y) = .ok (.str z) (h ++ y)) ∧ ∀ y, bRepr2 [v] (h ++ y) = .ok (.str z) (h ++ y)
theorem vok_of {h : Hs} {v : SV} {c : Bool} {d : PyData} (e : toD 30 h v = some d) (k : DOk d) (hc : ∀ y, F_is_columns [v] (h ++ y) = .ok (.bl c) (h ++ y)) (hd : ∀ y, F__law_due [v] (h ++ y) = .ok (.bl c) (h ++ y)) (c0 : SV.mxs [v] = 0 → F_is_columns [v] [] = .ok (.bl c) []) (d0 : SV.mxs [v] = 0 → toD 30 [] v = some d) : VOk h v := by
  refine ⟨c, d.shown, k.so, hc, hd, fun hc0 y => ?_, repr_ok e k⟩
  subst hc0
  have z2 : SV.mxs [v, SV.non] = 0 → SV.mxs [v] = 0 := fun q => by simp [SV.mxs, SV.mx] at q ⊢; exact q
  refine heard_is (hc y) (fun q => c0 (z2 q)) (fun x => ?_) (fun q x => ?_)
  · rw [List.append_assoc]; exact repr_ok e k _
  · have := repr_ok (d0 q) k x
    simpa using this
theorem mxs_els {xs : List SV} {h : Hs} (hx : ∀ x ∈ xs, ElQ h x) (hz : SV.mxs xs = 0) : ∀ x ∈ xs, ElQ [] x := fun x hm => by
  rcases hx x hm with e | ⟨r, rfl, _⟩
  · exact .inl e
  · exfalso
    have le : ∀ (ys : List SV), SV.ref r ∈ ys → 0 < SV.mxs ys := by
      intro ys
      induction ys with
      | nil => intro hm; cases hm
      | cons y ys ih =>
        intro hm
        simp only [SV.mxs]
        rcases List.mem_cons.mp hm with e | e
        · subst e; simp only [SV.mx]; omega
        · have := ih e; omega
    have := le xs hm
    omega
theorem vok_tup {xs : List SV} {h : Hs} (hx : ∀ x ∈ xs, ElQ h x) (hl : xs.length ≤ 20) : VOk h (.tup xs) := by
  obtain ⟨ds, e, k, l⟩ := els_data hx
  have z : SV.mxs [SV.tup xs] = 0 → ∀ x ∈ xs, ElQ [] x := fun q => mxs_els hx (by simpa [SV.mxs, SV.mx] using q)
  refine vok_of (c := colsB xs) (d := .tuple ds) (toD_tup 29 h xs e) (list_ok k (by omega)).2 (fun y => cols_on (fun x hm => (hx x hm).app.p) fun q x hm => (z q x hm).p) (fun y => due_on (fun x hm => (hx x hm).app.p) fun q x hm => (z q x hm).p) (fun q => cols_on (fun x hm => (z q x hm).p) fun q x hm => (z q x hm).p) fun q => ?_
  obtain ⟨ds0, e0, _, _⟩ := els_data (z q)
  have e1 := toD_tup' 29 h xs (toD_app 30 [] h (.tup xs) (.tuple ds0) (toD_tup 29 [] xs e0))
  have q2 : ds0 = ds := Option.some.inj (e1.symm.trans e)
  rw [← q2]; exact toD_tup 29 [] xs e0
theorem vok_lst {xs : List SV} {h : Hs} {a : Nat} (ha : h[a]? = some (.lst xs)) (hx : ∀ x ∈ xs, ElQ h x) (hl : xs.length ≤ 20) : VOk h (.ref a) := by
  obtain ⟨ds, e, k, l⟩ := els_data hx
  have z : SV.mxs [SV.ref a] ≠ 0 := by simp [SV.mxs, SV.mx]
  have hy : ∀ y : Hs, tyS (h ++ y) (.ref a) = some (.b "list") := fun y => by
    have : (h ++ y)[a]? = some (.lst xs) := by rw [List.getElem?_append_left (List.getElem?_eq_some_iff.mp ha).1]; exact ha
    simp only [tyS, this]
  exact vok_of (c := false) (d := .list ds) (toD_lst 29 h a xs ha e) (list_ok k (by omega)).1 (fun y => (cols_no (t := .b "list") (fun _ => .inr (by simp [SV.mx])) (hy y) lT).1) (fun y => (cols_no (t := .b "list") (fun _ => .inr (by simp [SV.mx])) (hy y) lT).2) (fun q => absurd q z) fun q => absurd q z
theorem vok_non {h : Hs} : VOk h .non := vok_of (c := false) (d := .none) rfl ⟨rfl, rfl, by decide, by decide +kernel, by decide +kernel⟩ (fun y => (cols_no (fun _ => .inl rfl) rfl nT).1) (fun y => (cols_no (fun _ => .inl rfl) rfl nT).2) (fun _ => (cols_no (fun _ => .inl rfl) rfl nT).1) fun _ => rfl
theorem strT : tB (.b "str") (.b "tuple") = some false := by decide +kernel
theorem dT : tB (.b "dict") (.b "tuple") = some false := by decide +kernel
theorem vok_ab {h : Hs} : VOk h (.str "ab") := vok_of (c := false) (d := .str "ab") rfl ⟨rfl, rfl, by decide, by decide +kernel, by decide +kernel⟩ (fun y => (cols_no (fun _ => .inl rfl) rfl strT).1) (fun y => (cols_no (fun _ => .inl rfl) rfl strT).2) (fun _ => (cols_no (fun _ => .inl rfl) rfl strT).1) fun _ => rfl
theorem vok_dct {h : Hs} {a : Nat} (ha : h[a]? = some (.dct [])) : VOk h (.ref a) := by
  have hy : ∀ y : Hs, (h ++ y)[a]? = some (.dct []) := fun y => by rw [List.getElem?_append_left (List.getElem?_eq_some_iff.mp ha).1]; exact ha
  have ht : ∀ y : Hs, tyS (h ++ y) (.ref a) = some (.b "dict") := fun y => by simp only [tyS, hy y]
  have c := fun y => cols_no (h := h ++ y) (t := .b "dict") (fun _ => .inr (by simp [SV.mx])) (ht y) dT
  have rp : ∀ y, bRepr2 [.ref a] (h ++ y) = .ok (.str "{}") (h ++ y) := fun y => by
    unfold bRepr2
    simp only [hy y]
  refine ⟨false, "{}", by decide +kernel, fun y => (c y).1, fun y => (c y).2, fun _ y => heard_is (c y).1 (fun q => absurd q (by simp [SV.mxs, SV.mx])) (fun x => by rw [List.append_assoc]; exact rp _) (fun q => absurd q (by simp [SV.mxs, SV.mx])), rp⟩
end Kx

set_option Elab.async false
set_option linter.all false
set_option maxRecDepth 100000
set_option maxHeartbeats 1000000
namespace Kx
open PySem PySem.Spec L2 Pz
/-! ### rows: the values that occur in them -/
theorem word_no {v : SV} {h : Hs} {t : TyS} (e1 : ∀ h, tyS h v = some t ∨ v.mx ≠ 0) (e3 : tyS h v = some t) (e2 : tB t (.b "str") = some false) : F_is_word [v] h = .ok (.bl false) h ∧ F__law_is_word [v] h = .ok (.bl false) h := by
  have go : ∀ h, tyS h v = some t → b_is_word (startS 1 [v]) h = .rt (.bl false) h ∧ b__law_is_word (startS 2 [v]) h = .rt (.bl false) h := fun h e => by
    refine ⟨?_, e_seqR ?_⟩
    · exact e_ret (e_and0 (e_isi (e_var rfl) e e2))
    · rw [show r__law_is_word_0 = sIf _ _ _ from rfl, e_sif1 (e_orT1 (e_notT (e_isiT (e_var rfl) e e2)))]; rfl
  have hz : SV.mxs [v] = 0 → v.mx = 0 := fun z => by simp [SV.mxs] at z; exact z
  exact ⟨f_back (go h e3).1 (fun z => (go [] ((e1 []).resolve_right fun q => q (hz z))).1) rfl (by simp), f_back (go h e3).2 (fun z => (go [] ((e1 []).resolve_right fun q => q (hz z))).2) rfl (by simp)⟩
/-- both say the same of a value: is it a word -/
def WOk (h : Hs) (v : SV) : Prop := ∃ b, F_is_word [v] h = .ok (.bl b) h ∧ F__law_is_word [v] h = .ok (.bl b) h
theorem wok_txt {z : Str} (hz : z ∈ texts) (h : Hs) : WOk h (.str z) := ⟨_, word_txt hz h⟩
theorem wok_no {v : SV} {h : Hs} {t : TyS} (e1 : ∀ h, tyS h v = some t ∨ v.mx ≠ 0) (e3 : tyS h v = some t) (e2 : tB t (.b "str") = some false) : WOk h v := ⟨_, word_no e1 e3 e2⟩
theorem kN : tB (.b "NoneType") (.b "str") = some false ∧ tB (.b "int") (.b "str") = some false ∧ tB (.b "bool") (.b "str") = some false ∧ tB (.b "tuple") (.b "str") = some false ∧ tB (.b "list") (.b "str") = some false := by decide +kernel
theorem wok_non {h : Hs} : WOk h .non := wok_no (fun _ => .inl rfl) rfl kN.1
theorem wok_int {h : Hs} {i : Int} : WOk h (.int i) := wok_no (fun _ => .inl rfl) rfl kN.2.1
theorem wok_bl {h : Hs} {b : Bool} : WOk h (.bl b) := wok_no (fun _ => .inl rfl) rfl kN.2.2.1
theorem wok_tup {h : Hs} {xs : List SV} : WOk h (.tup xs) := wok_no (fun _ => .inl rfl) rfl kN.2.2.2.1
theorem wok_lst {h : Hs} {a : Nat} {xs : List SV} (ha : h[a]? = some (.lst xs)) : WOk h (.ref a) := wok_no (t := .b "list") (fun _ => .inr (by simp [SV.mx])) (by simp only [tyS, ha]) kN.2.2.2.2
/-- a loop whose turns leave everything as it was -/
theorem for_same {σ0 : SEnv} {h : Hs} {g : GF} {body : SF} {chk : Hs → Bool} (hc : chk h = true) : ∀ (xs : List SV), (∀ x ∈ xs, ∃ σ1, g x σ0 = some σ1 ∧ ∃ σ2 y, body σ1 h = .nx σ2 (h ++ y) ∧ cutE h.length σ0 σ2 = σ0) → forGo σ0 h g body chk xs σ0 h = .nx σ0 h
  | [], _ => by unfold forGo; rw [if_pos hc]
  | x :: xs, k => by
    obtain ⟨σ1, e1, σ2, y, e2, e3⟩ := k x (by simp)
    unfold forGo
    rw [if_pos hc, e1]
    simp only [e2]
    rw [gcS_back (by simp), e3]
    exact for_same hc xs fun z hz => k z (by simp [hz])
theorem ne_same (z : Str) (hz : PySem.PyData.strOk z = true) (h : Hs) : oNe (.str z) (.str z) h = .ok (.bl false) h := by
  have sh : SeqAt.shaped (.str z) = true := by unfold SeqAt.shaped; simp [PyData.canLay0, hz, PyData.depth]
  unfold oNe two
  show (if (SeqAt.shaped (.str z) && SeqAt.shaped (.str z)) = true then Out.ok (SV.bl (!PyData.eqv (.str z) (.str z))) h else .stuck) = _
  rw [sh, eqv_str]; simp
theorem repr_bl (b : Bool) (h : Hs) : bRepr2 [.bl b] h = .ok (.str (if b then "True" else "False")) h := by
  have := repr_ok (h := []) (v := .bl b) (d := .bool b) rfl ⟨rfl, rfl, Nat.zero_le _, by cases b <;> decide +kernel, by cases b <;> decide +kernel⟩ h
  simpa [PyData.shown] using this
theorem bl_ok (b : Bool) : PySem.PyData.strOk (if b then ("True" : Str) else "False") = true := by cases b <;> decide +kernel
/-- repr(f(..)) != repr(g(..)), both the same bool -/
theorem ne_bl {ra rb : EF} {σ : SEnv} {h : Hs} {b : Bool} (ea : ra σ h = .ok (.bl b) h) (eb : rb σ h = .ok (.bl b) h) : rTB (rB oNe (rF bRepr2 (lCons ra lNil)) (rF bRepr2 (lCons rb lNil))) σ h = .ok false h := by
  refine e_TB ((e_B ((e_F (e_cons ea e_nil)).trans (repr_bl b h)) ((e_F (e_cons eb e_nil)).trans (repr_bl b h))).trans ?_)
  have := ne_same (if b then ("True" : Str) else "False") (bl_ok b) h
  cases b <;> exact this
/-- the words' turn -/
theorem word_turn {v : SV} {h : Hs} {σ : SEnv} (e5 : σ[5]? = some (some v)) (w : WOk h v) : r_law_3_a_1_a_0 σ h = .nx σ h := by
  obtain ⟨b, e1, e2⟩ := w
  rw [show r_law_3_a_1_a_0 = sIf _ _ _ from rfl, e_sif0 (ne_bl ((e_call1 (e_var e5)).trans e1) ((e_call1 (e_var e5)).trans e2))]; rfl
/-- a value's turn -/
theorem value_turn {v : SV} {h y : Hs} {σ : SEnv} (e5 : σ[5]? = some (some v)) (w : VOk h v) : (sSeq r_law_3_a_8_a_0 r_law_3_a_8_a_1) σ (h ++ y) = .nx σ (h ++ y) := by
  obtain ⟨c, z, hz, e1, e2, e3, e4⟩ := w
  have s0 : r_law_3_a_8_a_0 σ (h ++ y) = .nx σ (h ++ y) := by
    rw [show r_law_3_a_8_a_0 = sIf _ _ _ from rfl, e_sif0 (ne_bl ((e_call1 (e_var e5)).trans (e1 y)) ((e_call1 (e_var e5)).trans (e2 y)))]; rfl
  rw [e_seq s0]
  have q : rNotT (rT (rCall F__law_due 1 [] (lCons (rVar 5) lNil))) σ (h ++ y) = .ok (!c) (h ++ y) := e_notT (e_T ((e_call1 (e_var e5)).trans (e2 y)) rfl)
  rw [show r_law_3_a_8_a_1 = sIf _ _ _ from rfl]
  cases c with
  | true => rw [e_sif0 (e_andT0 q)]; rfl
  | false =>
    rw [e_sif0 ((e_andT1 q).trans (e_TB ((e_B ((e_call1 (e_var e5)).trans (e3 rfl y)) ((e_F (e_cons (e_var e5) e_nil)).trans (e4 y))).trans (ne_same z hz _))))]; rfl
end Kx

set_option Elab.async false
set_option linter.all false
set_option maxRecDepth 100000
set_option maxHeartbeats 1000000
namespace Kx
open PySem PySem.Spec L2 Pz
/-! ### a row's parts -/
def partsL : List SV := [.int 0, .int 5, .int (10 ^ 40), .int (-1), .bl true, .bl false, .non, .str "a", .str "abc", .str "", .str "A", .tup [.int 1], .str "5", .int (-10 ^ 30), .str "bb", .int (10 ^ 30)]
def numB (p : SV) : Bool := (resB (F__law_is_number [p] [])).getD false
def wordB (p : SV) : Bool := (resB (F__law_is_word [p] [])).getD false
def chkP (p : SV) : Bool := SV.mxs [p] == 0 && (resB (F__law_is_number [p] []) == some (numB p)) && (resB (F__law_is_word [p] []) == some (wordB p)) && (resB (F_is_of_kind [.str "number", p] []) == some (numB p)) && (resB (F_is_of_kind [.str "word", p] []) == some (wordB p))
theorem parts_ok : partsL.all chkP = true := by decide +kernel
def PartP (h : Hs) (p : SV) : Prop := p ∈ partsL ∨ ∃ r ys, p = .ref r ∧ h[r]? = some (.lst ys)
def kindB (k : Str) (p : SV) : Bool := if k = "number" then numB p else wordB p
theorem lI : tB (.b "list") (.b "int") = some false := by decide +kernel
theorem part_is {h : Hs} {p : SV} (e : PartP h p) : F__law_is_number [p] h = .ok (.bl (numB p)) h ∧ F__law_is_word [p] h = .ok (.bl (wordB p)) h ∧ F_is_of_kind [.str "number", p] h = .ok (.bl (numB p)) h ∧ F_is_of_kind [.str "word", p] h = .ok (.bl (wordB p)) h := by
  rcases e with e | ⟨r, ys, rfl, hr⟩
  · have c := List.all_eq_true.mp parts_ok p e
    unfold chkP at c
    simp only [Bool.and_eq_true, beq_iff_eq] at c
    obtain ⟨⟨⟨⟨c0, c1⟩, c2⟩, c3⟩, c4⟩ := c
    have z : ∀ k : Str, SV.mxs [SV.str k, p] = 0 := fun k => by simp [SV.mxs, SV.mx] at c0 ⊢; exact c0
    exact ⟨f_any c0 (resB_eq c1), f_any c0 (resB_eq c2), f_any (z _) (resB_eq c3), f_any (z _) (resB_eq c4)⟩
  · have t : tyS h (.ref r) = some (.b "list") := by simp only [tyS, hr]
    have z : SV.mxs [SV.ref r] ≠ 0 := by simp [SV.mxs, SV.mx]
    have z2 : ∀ k : Str, SV.mxs [SV.str k, SV.ref r] ≠ 0 := fun k => by simp [SV.mxs, SV.mx]
    have n0 : numB (.ref r) = false := by
      have : F__law_is_number [.ref r] [] = .stuck := by
        unfold F__law_is_number mkF
        rw [if_neg z]; rfl
      unfold numB; rw [this]; rfl
    have w0 : wordB (.ref r) = false := by
      have : F__law_is_word [.ref r] [] = .stuck := by
        unfold F__law_is_word mkF
        rw [if_neg z]; rfl
      unfold wordB; rw [this]; rfl
    have a1 : F__law_is_number [.ref r] h = .ok (.bl false) h := f_back (h2 := h) (e_ret (e_and0 (e_isi (e_var rfl) t lI))) (fun q => absurd q z) rfl (by simp)
    have a2 : F__law_is_word [.ref r] h = .ok (.bl false) h := (word_no (fun _ => .inr (by simp [SV.mx])) t kN.2.2.2.2).2
    have a3 : F_is_number [.ref r] h = .ok (.bl false) h := f_back (h2 := h) (e_ret (e_and0 (e_isi (e_var rfl) t lI))) (fun q => absurd q z) rfl (by simp)
    have a4 : F_is_word [.ref r] h = .ok (.bl false) h := (word_no (fun _ => .inr (by simp [SV.mx])) t kN.2.2.2.2).1
    have so : ∀ k : Str, PySem.PyData.strOk k = true → SeqAt.shaped (.str k) = true := fun k hk => by unfold SeqAt.shaped; simp [PyData.canLay0, hk, PyData.depth]
    have oq : ∀ (k : Str) (h : Hs), PySem.PyData.strOk k = true → oEq (.str k) (.str "number") h = .ok (.bl (k == "number")) h := fun k h hk => by
      unfold oEq two
      show (if (SeqAt.shaped (.str k) && SeqAt.shaped (.str "number")) = true then Out.ok (SV.bl (PyData.eqv (.str k) (.str "number"))) h else .stuck) = _
      rw [so k hk, so "number" (by decide +kernel), eqv_str]; rfl
    rw [n0, w0]
    refine ⟨a1, a2, ?_, ?_⟩
    · refine f_back (h' := h) (h2 := h) (e_ret ?_) (fun q => absurd q (z2 _)) rfl List.take_length
      rw [e_if1 (e_TB (((e_B (e_var rfl) rfl).trans (oq "number" _ (by decide +kernel))).trans rfl))]
      exact (e_call1 (e_var rfl)).trans a3
    · refine f_back (h' := h) (h2 := h) (e_ret ?_) (fun q => absurd q (z2 _)) rfl List.take_length
      rw [e_if0 (e_TB (((e_B (e_var rfl) rfl).trans (oq "word" _ (by decide +kernel))).trans (by rw [show (("word" : Str) == ("number" : Str)) = false by decide +kernel])))]
      exact (e_call1 (e_var rfl)).trans a4
end Kx

set_option Elab.async false
set_option linter.all false
set_option maxRecDepth 100000
set_option maxHeartbeats 1000000
namespace Kx
open PySem PySem.Spec L2 Pz
def kd : SV → Str
  | .tup [_, .str k] => k
  | _ => ""
def cellB (x : SV × SV) : Bool := kindB (kd x.1) x.2
def rowB (cs vs : List SV) : Bool := ((vs.length : Int) == (cs.length : Int)) && (cs.zip vs).all cellB
theorem zip_map (f : SV × SV → SV) (cs vs : List SV) (g : SV → SV) (h : ∀ c p, g (.tup [c, p]) = f (c, p)) : (zipS cs vs).map g = (cs.zip vs).map f := by
  induction cs generalizing vs with
  | nil => rfl
  | cons c cs ih =>
    cases vs with
    | nil => rfl
    | cons p vs =>
      show g (.tup [c, p]) :: (zipS cs vs).map g = f (c, p) :: (cs.zip vs).map f
      rw [h, ih]
theorem zip_mem {cs vs : List SV} {x : SV} (h : x ∈ zipS cs vs) : ∃ c p, x = .tup [c, p] ∧ c ∈ cs ∧ p ∈ vs := by
  obtain ⟨i, hi⟩ := List.mem_iff_getElem?.mp h
  obtain ⟨c, p, e1, e2, e3⟩ := zipS_get hi
  exact ⟨c, p, e3, List.mem_of_getElem? e1, List.mem_of_getElem? e2⟩
theorem kind_is {h : Hs} {p : SV} {k : Str} (e : PartP h p) (hk : k = "word" ∨ k = "number") : F_is_of_kind [.str k, p] h = .ok (.bl (kindB k p)) h := by
  obtain ⟨_, _, a, b⟩ := part_is e
  unfold kindB
  rcases hk with rfl | rfl
  · rw [if_neg (by decide +kernel)]; exact b
  · rw [if_pos rfl]; exact a
/-- the head of both -/
theorem row_head {cs vs : List SV} {h : Hs} {σ : SEnv} (e0 : σ[0]? = some (some (.tup cs))) (e1 : σ[1]? = some (some (.tup vs))) : (rOrT (rNotT (rT (rF (bIsi tB) (lCons (rVar 1) (lCons (rC (.ty "tuple")) lNil))))) (rTB (rB oNe (rF bLen2 (lCons (rVar 1) lNil)) (rF bLen2 (lCons (rVar 0) lNil))))) σ h = .ok (!((vs.length : Int) == (cs.length : Int))) h := by
  rw [e_orT0 (e_notT (e_isiT (e_var e1) rfl tT))]
  exact e_TB ((e_B (e_lenT (e_var e1)) (e_lenT (e_var e0))).trans (o_neI _ _ _))
theorem parts_nil {vs : List SV} {h : Hs} (hv : ∀ p ∈ vs, PartP h p) (hz : SV.mxs vs = 0) : ∀ p ∈ vs, PartP [] p := fun p hm => by
  rcases hv p hm with e | ⟨r, ys, rfl, _⟩
  · exact .inl e
  · exfalso
    have le : ∀ (ys : List SV), SV.ref r ∈ ys → 0 < SV.mxs ys := by
      intro ys
      induction ys with
      | nil => intro hm; cases hm
      | cons y ys ih =>
        intro hm
        simp only [SV.mxs]
        rcases List.mem_cons.mp hm with e | e
        · subst e; simp only [SV.mx]; omega
        · have := ih e; omega
    have := le vs hm
    omega
theorem fits_is {cs vs : List SV} {h : Hs} (hc : ∀ c ∈ cs, good c = true) (hn : cs.length ≤ 6) (hv : ∀ p ∈ vs, PartP h p) : F_fits [.tup cs, .tup vs] h = .ok (.bl (rowB cs vs)) h := by
  have go : ∀ h, (∀ p ∈ vs, PartP h p) → ∃ y, b_fits (startS 5 [.tup cs, .tup vs]) h = .rt (.bl (rowB cs vs)) (h ++ y) := fun h hv => by
    have e1 := row_head (cs := cs) (vs := vs) (h := h) (σ := startS 5 [.tup cs, .tup vs]) rfl rfl
    unfold rowB
    cases hl : ((vs.length : Int) == (cs.length : Int)) with
    | false =>
      rw [hl] at e1
      refine ⟨[], e_seqR ?_⟩
      rw [show r_fits_0 = sIf _ _ _ from rfl, e_sif1 e1, List.append_nil]; rfl
    | true =>
      rw [hl] at e1
      have s0 : r_fits_0 (startS 5 [.tup cs, .tup vs]) h = .nx (startS 5 [.tup cs, .tup vs]) h := by rw [show r_fits_0 = sIf _ _ _ from rfl, e_sif0 e1]; rfl
      have iz : Pz.iZip (lCons (rVar 0) (lCons (rVar 1) lNil)) (startS 5 [.tup cs, .tup vs]) h = .ok (zipS cs vs, fun _ => true) h := by
        unfold Pz.iZip
        rw [e_cons (e_var rfl) (e_cons (e_var rfl) e_nil), Out.bnd_ok]
      have zl : (zipS cs vs).length ≤ 6 := by unfold zipS; rw [List.length_zipWith]; omega
      let f : SV → SV := fun x => match x with
        | .tup [c, p] => .bl (cellB (c, p))
        | _ => .non
      have lc := lc_map (g := gTp 2 (gsC (gTp 2 (gsC (gNm 3) (gsC (gNm 4) gsN))) (gsC (gNm 2) gsN))) (tt := tYesS) (te := rCall F_is_of_kind 2 [] (lCons (rVar 4) (lCons (rVar 2) lNil))) (chk := fun _ => true) (h := h) (σw := wipeS (startS 5 [.tup cs, .tup vs]) [2, 3, 4]) (f := f) (zipS cs vs) [] rfl (by simp; omega) fun x hm => by
        obtain ⟨c, p, rfl, hc1, hp1⟩ := zip_mem hm
        obtain ⟨n, k, rfl, _, hk⟩ := good_form (hc c hc1)
        exact ⟨_, h, rfl, rfl, (e_call2 (e_var rfl) (e_var rfl)).trans (kind_is (hv p hp1) hk), gcV_same rfl⟩
      have fz : (zipS cs vs).map f = ((cs.zip vs).map cellB).map SV.bl := by
        rw [zip_map (fun x => SV.bl (cellB x)) cs vs f fun c p => rfl, List.map_map]; rfl
      refine ⟨[.lst (((cs.zip vs).map cellB).map SV.bl)], (e_seq s0).trans (e_ret ?_)⟩
      rw [e_F (e_cons (e_lc (ys := ((cs.zip vs).map cellB).map SV.bl) (h2 := h) iz (by rw [← fz]; simpa using lc)) e_nil)]
      unfold bAll
      dsimp only
      rw [List.getElem?_append_right (Nat.le_refl _), Nat.sub_self]
      have bm : ∀ bs : List Bool, blsS (bs.map SV.bl) = some bs := fun bs => by
        have := bls_map (fun x => match x with | SV.bl b => b | _ => false) (bs.map SV.bl)
        induction bs with
        | nil => rfl
        | cons b bs ih => simp only [List.map_cons, blsS]; rw [ih (bls_map _ _)]; rfl
      simp only [List.getElem?_cons_zero, bm]
      rw [List.all_map, Bool.true_and]; rfl
  obtain ⟨y, e⟩ := go h hv
  by_cases hz : SV.mxs [SV.tup cs, SV.tup vs] = 0
  · have hz2 : SV.mxs vs = 0 := by simp [SV.mxs, SV.mx] at hz; omega
    obtain ⟨y2, e2⟩ := go [] (parts_nil hv hz2)
    exact f_back e (fun _ => e2) rfl (by simp)
  · exact f_back (h2 := h) e (fun q => absurd q hz) rfl (by simp)
end Kx

set_option Elab.async false
set_option linter.all false
set_option maxRecDepth 100000
set_option maxHeartbeats 1000000
namespace Kx
open PySem PySem.Spec L2 Pz
theorem good_el {h : Hs} {x : SV} (e : good x = true) : ElP h x := .inl (List.mem_append_left _ (of_decide_eq_true e))
theorem row_of {cs : List SV} {v : SV} {b : Bool} {h : Hs} (hc : colsB cs = true) (hg : ∀ c ∈ cs, good c = true) (hf : F_fits [.tup cs, v] h = .ok (.bl b) h) (hf0 : SV.mxs [SV.tup cs, v] = 0 → F_fits [.tup cs, v] [] = .ok (.bl b) []) : F_is_row [.tup cs, v] h = .ok (.bl b) h := by
  have go : ∀ h, F_fits [.tup cs, v] h = .ok (.bl b) h → b_is_row (startS 2 [.tup cs, v]) h = .rt (.bl b) h := fun h hf => by
    have ci : F_is_columns [.tup cs] h = .ok (.bl true) h := by
      have := cols_on (xs := cs) (h := h) (fun x hm => good_el (hg x hm)) fun _ x hm => good_el (hg x hm)
      rw [hc] at this; exact this
    have t : rNotT (rT (rCall F_is_columns 1 [] (lCons (rVar 0) lNil))) (startS 2 [.tup cs, v]) h = .ok false h := e_notT (e_T ((e_call1 (e_var rfl)).trans ci) rfl)
    have s0 : r_is_row_0 (startS 2 [.tup cs, v]) h = .nx (startS 2 [.tup cs, v]) h := by rw [show r_is_row_0 = sIf _ _ _ from rfl, e_sif0 t]; rfl
    exact (e_seq s0).trans (e_ret ((e_call2 (e_var rfl) (e_var rfl)).trans hf))
  exact f_back (h' := h) (h2 := []) (go h hf) (fun q => go [] (hf0 q)) rfl List.take_length
theorem fits_no {cs : List SV} {v : SV} {h : Hs} {t : TyS} (e1 : ∀ h, tyS h v = some t ∨ v.mx ≠ 0) (e3 : tyS h v = some t) (e2 : tB t (.b "tuple") = some false) : F_fits [.tup cs, v] h = .ok (.bl false) h ∧ F__law_row_due [.tup cs, v] h = .ok (.bl false) h := by
  have go : ∀ h, tyS h v = some t → b_fits (startS 5 [.tup cs, v]) h = .rt (.bl false) h ∧ b__law_row_due (startS 4 [.tup cs, v]) h = .rt (.bl false) h := fun h e => by
    refine ⟨e_seqR ?_, e_seqR ?_⟩
    · rw [show r_fits_0 = sIf _ _ _ from rfl, e_sif1 (e_orT1 (e_notT (e_isiT (e_var rfl) e e2)))]; rfl
    · rw [show r__law_row_due_0 = sIf _ _ _ from rfl, e_sif1 (e_orT1 (e_notT (e_isiT (e_var rfl) e e2)))]; rfl
  have hz : SV.mxs [SV.tup cs, v] = 0 → v.mx = 0 := fun z => by simp [SV.mxs] at z; omega
  exact ⟨f_back (h' := h) (h2 := []) (go h e3).1 (fun z => (go [] ((e1 []).resolve_right fun q => q (hz z))).1) rfl List.take_length, f_back (h' := h) (h2 := []) (go h e3).2 (fun z => (go [] ((e1 []).resolve_right fun q => q (hz z))).2) rfl List.take_length⟩
/-- a loop that ends at the first no -/
theorem for_all {σ0 : SEnv} {h : Hs} {g : GF} {body : SF} {chk : Hs → Bool} {f : SV → Bool} (hc : chk h = true) : ∀ (xs : List SV), (∀ x ∈ xs, ∃ σ1, g x σ0 = some σ1 ∧ ((f x = true ∧ ∃ σ2 y, body σ1 h = .nx σ2 (h ++ y) ∧ cutE h.length σ0 σ2 = σ0) ∨ (f x = false ∧ ∃ y, body σ1 h = .rt (.bl false) (h ++ y)))) →
    (xs.all f = true ∧ forGo σ0 h g body chk xs σ0 h = .nx σ0 h) ∨ (xs.all f = false ∧ ∃ y, forGo σ0 h g body chk xs σ0 h = .rt (.bl false) (h ++ y))
  | [], _ => .inl ⟨rfl, by unfold forGo; rw [if_pos hc]⟩
  | x :: xs, k => by
    obtain ⟨σ1, e1, k1⟩ := k x (by simp)
    have ih := for_all hc xs fun z hz => k z (by simp [hz])
    unfold forGo
    rw [if_pos hc, e1]
    rcases k1 with ⟨ef, σ2, y, e2, e3⟩ | ⟨ef, y, e2⟩
    · simp only [e2]
      rw [gcS_back (by simp), e3, List.all_cons, ef, Bool.true_and]
      exact ih
    · simp only [e2]
      right
      rw [List.all_cons, ef, Bool.false_and]
      exact ⟨rfl, y, rfl⟩
theorem atI_nat {α : Type} {xs : List α} {i : Nat} {x : α} (e : xs[i]? = some x) : atI xs (i : Int) = some x := by
  have hi := (List.getElem?_eq_some_iff.mp e).1
  unfold atI ixN
  rw [if_pos (by omega), if_pos (by omega)]
  simpa using e
def rowF (vs : List SV) : SV → Bool
  | .tup [.int i, c] => cellB (c, vs.getD i.toNat .non)
  | _ => false
theorem eq_num {k : Str} (hk : k = "word" ∨ k = "number") (h : Hs) : oEq (.str k) (.str "number") h = .ok (.bl (decide (k = "number"))) h := by
  have so : ∀ k : Str, PySem.PyData.strOk k = true → SeqAt.shaped (.str k) = true := fun k hk => by unfold SeqAt.shaped; simp [PyData.canLay0, hk, PyData.depth]
  have kk : PySem.PyData.strOk k = true := by rcases hk with rfl | rfl <;> decide +kernel
  unfold oEq two
  show (if (SeqAt.shaped (.str k) && SeqAt.shaped (.str "number")) = true then Out.ok (SV.bl (PyData.eqv (.str k) (.str "number"))) h else .stuck) = _
  rw [so k kk, so "number" (by decide +kernel), eqv_str]
  rcases hk with rfl | rfl <;> rfl
theorem row_turn {cs vs : List SV} {h : Hs} {i : Nat} {c p : SV} (hg : good c = true) (ei : vs[i]? = some p) (hp : PartP h p) : r__law_row_due_1_a_0 [some (.tup cs), some (.tup vs), some (.int i), some c] h = if cellB (c, p) = true then .nx [some (.tup cs), some (.tup vs), some (.int i), some c] (h ++ [.lst [.bl (wordB p), .bl (numB p)]]) else .rt (.bl false) (h ++ [.lst [.bl (wordB p), .bl (numB p)]]) := by
  obtain ⟨n, k, rfl, _, hk⟩ := good_form hg
  obtain ⟨a1, a2, _, _⟩ := part_is hp
  have ix : ∀ h, rB oIx (rVar 1) (rVar 2) [some (.tup cs), some (.tup vs), some (.int i), some (.tup [.str n, .str k])] h = .ok p h := fun h => by
    rw [e_B (e_var rfl) (e_var rfl)]
    show (match atI vs (i : Int) with | some v => Out.ok v h | none => .stuck) = _
    rw [atI_nat ei]
  have ll : rLst (lCons (rCall F__law_is_word 1 [] (lCons (rB oIx (rVar 1) (rVar 2)) lNil)) (lCons (rCall F__law_is_number 1 [] (lCons (rB oIx (rVar 1) (rVar 2)) lNil)) lNil)) [some (.tup cs), some (.tup vs), some (.int i), some (.tup [.str n, .str k])] h = .ok (.ref h.length) (h ++ [.lst [.bl (wordB p), .bl (numB p)]]) :=
    e_lst (e_cons ((e_call1 (ix h)).trans a2) (e_cons ((e_call1 (ix h)).trans a1) e_nil)) (show 2 ≤ 1000000 by decide)
  have kk : ∀ h, rF bInt (lCons (rB oEq (rB oIx (rVar 3) (rC (.int 1))) (rC (.str "number"))) lNil) [some (.tup cs), some (.tup vs), some (.int i), some (.tup [.str n, .str k])] h = .ok (.int (if decide (k = "number") = true then 1 else 0)) h := fun h => by
    have x1 : rB oIx (rVar 3) (rC (.int 1)) [some (.tup cs), some (.tup vs), some (.int i), some (.tup [.str n, .str k])] h = .ok (.str k) h := (e_B (e_var rfl) rfl).trans rfl
    rw [e_F (e_cons ((e_B x1 rfl).trans (eq_num hk h)) e_nil)]; rfl
  have cell : cellB (.tup [.str n, .str k], p) = kindB k p := rfl
  have fin : rNotT (rT (rB oIx (rLst (lCons (rCall F__law_is_word 1 [] (lCons (rB oIx (rVar 1) (rVar 2)) lNil)) (lCons (rCall F__law_is_number 1 [] (lCons (rB oIx (rVar 1) (rVar 2)) lNil)) lNil))) (rF bInt (lCons (rB oEq (rB oIx (rVar 3) (rC (.int 1))) (rC (.str "number"))) lNil)))) [some (.tup cs), some (.tup vs), some (.int i), some (.tup [.str n, .str k])] h = .ok (!kindB k p) (h ++ [.lst [.bl (wordB p), .bl (numB p)]]) := by
    refine e_notT (e_T (v := .bl (kindB k p)) ?_ rfl)
    rw [e_B ll (kk _)]
    have g : (h ++ [SO.lst [SV.bl (wordB p), SV.bl (numB p)]])[h.length]? = some (.lst [.bl (wordB p), .bl (numB p)]) := by rw [List.getElem?_append_right (Nat.le_refl _), Nat.sub_self]; rfl
    unfold kindB
    by_cases q : k = "number"
    · rw [if_pos q, decide_eq_true q, if_pos rfl]
      simp only [oIx, g, atI1]
    · rw [if_neg q, decide_eq_false q, if_neg Bool.false_ne_true]
      simp only [oIx, g, atI0]
  rw [cell, show r__law_row_due_1_a_0 = sIf _ _ _ from rfl]
  cases kb : kindB k p with
  | true => rw [kb] at fin; rw [e_sif0 fin, if_pos rfl]; rfl
  | false => rw [kb] at fin; rw [e_sif1 fin, if_neg Bool.false_ne_true]; rfl
end Kx

set_option Elab.async false
set_option linter.all false
set_option maxRecDepth 100000
set_option maxHeartbeats 1000000
namespace Kx
open PySem PySem.Spec L2 Pz
theorem getD_at {vs : List SV} {i : Nat} {p : SV} (e : vs[i]? = some p) : vs.getD i .non = p := by
  rw [List.getD_eq_getElem?_getD, e]; rfl
theorem row_all {cs vs : List SV} (hl : vs.length = cs.length) : (cs.mapIdx fun i x => SV.tup [.int (i : Nat), x]).all (rowF vs) = (cs.zip vs).all cellB := by
  rw [Bool.eq_iff_iff, List.all_eq_true, List.all_eq_true]
  constructor
  · rintro k ⟨c, p⟩ hm
    obtain ⟨i, hi⟩ := List.mem_iff_getElem?.mp hm
    rw [List.getElem?_zip_eq_some] at hi
    obtain ⟨h1, h2⟩ := hi
    have := k (.tup [.int (i : Nat), c]) (List.mem_of_getElem? (i := i) (by rw [List.getElem?_mapIdx, h1]; rfl))
    show cellB (c, p) = true
    have q : rowF vs (.tup [.int (i : Nat), c]) = cellB (c, vs.getD ((i : Int)).toNat .non) := rfl
    rw [q, Int.toNat_natCast, getD_at h2] at this
    exact this
  · rintro k x hm
    obtain ⟨i, hi⟩ := List.mem_iff_getElem?.mp hm
    rw [List.getElem?_mapIdx, Option.map_eq_some_iff] at hi
    obtain ⟨c, h1, rfl⟩ := hi
    have hlt := (List.getElem?_eq_some_iff.mp h1).1
    obtain ⟨p, h2⟩ : ∃ p, vs[i]? = some p := ⟨vs[i], by simp [hl, hlt]⟩
    have := k (c, p) (List.mem_of_getElem? (i := i) (by rw [List.getElem?_zip_eq_some]; exact ⟨h1, h2⟩))
    have q : rowF vs (.tup [.int (i : Nat), c]) = cellB (c, vs.getD ((i : Int)).toNat .non) := rfl
    rw [q, Int.toNat_natCast, getD_at h2]
    exact this
theorem mx_good {h : Hs} {cs : List SV} (hg : ∀ c ∈ cs, good c = true) : SV.mxs cs ≤ h.length := mx_els fun x hm => good_el (hg x hm)
theorem mx_parts {h : Hs} : ∀ {vs : List SV}, (∀ p ∈ vs, PartP h p) → SV.mxs vs ≤ h.length
  | [], _ => Nat.zero_le _
  | p :: vs, hv => by
    have ih := mx_parts fun y hy => hv y (List.mem_cons_of_mem _ hy)
    have a : p.mx ≤ h.length := by
      rcases hv p (by simp) with e | ⟨r, ys, rfl, hr⟩
      · have m := List.all_eq_true.mp parts_ok p e
        unfold chkP at m
        simp only [Bool.and_eq_true, beq_iff_eq] at m
        have := m.1.1.1.1
        simp [SV.mxs] at this
        rw [this]; exact Nat.zero_le _
      · exact (List.getElem?_eq_some_iff.mp hr).1
    simp only [SV.mxs]; omega
theorem due_row {cs vs : List SV} {h : Hs} (hg : ∀ c ∈ cs, good c = true) (hv : ∀ p ∈ vs, PartP h p) : F__law_row_due [.tup cs, .tup vs] h = .ok (.bl (rowB cs vs)) h := by
  have go : ∀ h, (∀ p ∈ vs, PartP h p) → ∃ y, b__law_row_due (startS 4 [.tup cs, .tup vs]) h = .rt (.bl (rowB cs vs)) (h ++ y) := fun h hv => by
    have e1 := row_head (cs := cs) (vs := vs) (h := h) (σ := startS 4 [.tup cs, .tup vs]) rfl rfl
    unfold rowB
    cases hl : ((vs.length : Int) == (cs.length : Int)) with
    | false =>
      rw [hl] at e1
      refine ⟨[], e_seqR ?_⟩
      rw [show r__law_row_due_0 = sIf _ _ _ from rfl, e_sif1 e1, List.append_nil]; rfl
    | true =>
      rw [hl] at e1
      have hl2 : vs.length = cs.length := by have := beq_iff_eq.mp hl; omega
      have s0 : r__law_row_due_0 (startS 4 [.tup cs, .tup vs]) h = .nx (startS 4 [.tup cs, .tup vs]) h := by rw [show r__law_row_due_0 = sIf _ _ _ from rfl, e_sif0 e1]; rfl
      have ie : iEnum2 (lCons (rVar 0) lNil) (startS 4 [.tup cs, .tup vs]) h = .ok (cs.mapIdx fun i x => SV.tup [.int (i : Nat), x], fun _ => true) h := by
        unfold iEnum2
        rw [e_cons (e_var rfl) e_nil, Out.bnd_ok]
      have m1 : (SV.tup cs).mx ≤ h.length := by simpa [SV.mx] using mx_good (h := h) hg
      have m2 : (SV.tup vs).mx ≤ h.length := by simpa [SV.mx] using mx_parts hv
      have fa := for_all (σ0 := startS 4 [.tup cs, .tup vs]) (h := h) (g := gTp 2 (gsC (gNm 2) (gsC (gNm 3) gsN))) (body := r__law_row_due_1_a_0) (chk := fun _ => true) (f := rowF vs) rfl (cs.mapIdx fun i x => SV.tup [.int (i : Nat), x]) fun x hm => by
        obtain ⟨i, hi⟩ := List.mem_iff_getElem?.mp hm
        rw [List.getElem?_mapIdx, Option.map_eq_some_iff] at hi
        obtain ⟨c, h1, rfl⟩ := hi
        have hlt := (List.getElem?_eq_some_iff.mp h1).1
        obtain ⟨p, h2⟩ : ∃ p, vs[i]? = some p := ⟨vs[i], by simp [hl2, hlt]⟩
        have t := row_turn (cs := cs) (h := h) (hg c (List.mem_of_getElem? h1)) h2 (hv p (List.mem_of_getElem? h2))
        have q : rowF vs (.tup [.int (i : Nat), c]) = cellB (c, p) := by
          have q : rowF vs (.tup [.int (i : Nat), c]) = cellB (c, vs.getD ((i : Int)).toNat .non) := rfl
          rw [q, Int.toNat_natCast, getD_at h2]
        refine ⟨[some (.tup cs), some (.tup vs), some (.int i), some c], rfl, ?_⟩
        rw [q]
        cases hb : cellB (c, p) with
        | true =>
          rw [hb, if_pos rfl] at t
          refine .inl ⟨rfl, _, _, t, ?_⟩
          show cutE h.length ([some (SV.tup cs), some (SV.tup vs), none, none] : SEnv) ([some (SV.tup cs), some (SV.tup vs), some (SV.int i), some c] : SEnv) = _
          simp only [cutE, if_pos m1, if_pos m2]
          rfl
        | false =>
          rw [hb, if_neg Bool.false_ne_true] at t
          exact .inr ⟨rfl, _, t⟩
      rw [row_all hl2] at fa
      have ef : r__law_row_due_1 (startS 4 [.tup cs, .tup vs]) h = forGo (startS 4 [.tup cs, .tup vs]) h (gTp 2 (gsC (gNm 2) (gsC (gNm 3) gsN))) r__law_row_due_1_a_0 (fun _ => true) (cs.mapIdx fun i x => SV.tup [.int (i : Nat), x]) (startS 4 [.tup cs, .tup vs]) h := e_for ie
      rcases fa with ⟨q1, e⟩ | ⟨q1, y, e⟩
      · refine ⟨[], (e_seq s0).trans ((e_seq (ef.trans e)).trans ?_)⟩
        rw [q1, List.append_nil]; rfl
      · refine ⟨y, (e_seq s0).trans ((e_seqR (ef.trans e)).trans ?_)⟩
        rw [q1]; rfl
  obtain ⟨y, e⟩ := go h hv
  by_cases hz : SV.mxs [SV.tup cs, SV.tup vs] = 0
  · have hz2 : SV.mxs vs = 0 := by simp [SV.mxs, SV.mx] at hz; omega
    obtain ⟨y2, e2⟩ := go [] (parts_nil hv hz2)
    exact f_back e (fun _ => e2) rfl (by simp)
  · exact f_back (h2 := h) e (fun q => absurd q hz) rfl (by simp)
/-- what is asked of a row's value -/
def ROk (h : Hs) (cs : List SV) (v : SV) : Prop := ∃ b, F_is_row [.tup cs, v] h = .ok (.bl b) h ∧ F__law_row_due [.tup cs, v] h = .ok (.bl b) h
theorem rok_tup {cs vs : List SV} {h : Hs} (hc : colsB cs = true) (hg : ∀ c ∈ cs, good c = true) (hn : cs.length ≤ 6) (hv : ∀ p ∈ vs, PartP h p) : ROk h cs (.tup vs) :=
  ⟨_, row_of hc hg (fits_is hg hn hv) fun hz => fits_is hg hn (parts_nil hv (by simp [SV.mxs, SV.mx] at hz; omega)), due_row hg hv⟩
theorem rok_lst {cs xs : List SV} {h : Hs} {a : Nat} (hc : colsB cs = true) (hg : ∀ c ∈ cs, good c = true) (ha : h[a]? = some (.lst xs)) : ROk h cs (.ref a) := by
  have f := fits_no (cs := cs) (v := .ref a) (h := h) (t := .b "list") (fun _ => .inr (by simp [SV.mx])) (by simp only [tyS, ha]) lT
  exact ⟨_, row_of hc hg f.1 fun hz => absurd hz (by simp [SV.mxs, SV.mx]), f.2⟩
theorem rok_non {cs : List SV} {h : Hs} (hc : colsB cs = true) (hg : ∀ c ∈ cs, good c = true) : ROk h cs .non := by
  have f := fun h => fits_no (cs := cs) (v := .non) (h := h) (t := .b "NoneType") (fun _ => .inl rfl) rfl nT
  exact ⟨_, row_of hc hg (f h).1 fun _ => (f []).1, (f h).2⟩
/-- a row value's turn -/
theorem rowv_turn {cs : List SV} {v : SV} {h : Hs} {σ : SEnv} (e5 : σ[5]? = some (some v)) (e10 : σ[10]? = some (some (.tup cs))) (w : ROk h cs v) : r_law_3_a_10_a_2_a_0 σ h = .nx σ h := by
  obtain ⟨b, e1, e2⟩ := w
  rw [show r_law_3_a_10_a_2_a_0 = sIf _ _ _ from rfl, e_sif0 (ne_bl ((e_call2 (e_var e10) (e_var e5)).trans e1) ((e_call2 (e_var e10) (e_var e5)).trans e2))]; rfl
end Kx

set_option Elab.async false
set_option linter.all false
set_option maxRecDepth 100000
set_option maxHeartbeats 1000000
namespace Kx
open PySem PySem.Spec L2 Pz
/-! ### the law's own run -/
def W13 : List SV := [.str "a", .str "abc", .str "zzzzzzzzzzzz", .str "", .str "A", .str "a1", .str "a b", .str "\na", .str "a\n", .str "word", .non, .int 5, .bl true]
def W15 : List SV := W13 ++ [.tup [.str "a"], .ref 1]
def V15 : List SV := [.int 0, .int 5, .int (10 ^ 40), .int (-1), .bl true, .bl false, .non, .str "a", .str "abc", .str "", .str "A", .tup [.int 1], .ref 4, .str "5", .int (-10 ^ 30)]
def h0 : Hs := [.lst W13, .lst [.str "a"], .lst [.tup [.str "a"], .ref 1], .lst W15, .lst [.int 1], .lst V15]
def envA (ns : List Int) : SEnv := [some (.scr ns), some (.ref 3), some (.ref 5), none, none, none, none, none, none, none, none, none, none, none]
theorem i0 (ns : List Int) : r_law_0 (startS 14 [.scr ns]) [] = .nx [some (.scr ns), some (.ref 0), none, none, none, none, none, none, none, none, none, none, none, none] [.lst W13] := rfl
theorem i1 (ns : List Int) : r_law_1 [some (.scr ns), some (.ref 0), none, none, none, none, none, none, none, none, none, none, none, none] [.lst W13] = .nx [some (.scr ns), some (.ref 3), none, none, none, none, none, none, none, none, none, none, none, none] [.lst W13, .lst [.str "a"], .lst [.tup [.str "a"], .ref 1], .lst W15] := rfl
theorem i2 (ns : List Int) : r_law_2 [some (.scr ns), some (.ref 3), none, none, none, none, none, none, none, none, none, none, none, none] [.lst W13, .lst [.str "a"], .lst [.tup [.str "a"], .ref 1], .lst W15] = .nx (envA ns) h0 := rfl
abbrev envB (ns : List Int) (k : Nat) : SEnv := [some (.scr ns), some (.ref 3), some (.ref 5), some (.int k), some (.ref 6), none, none, none, none, none, none, none, none, none]
theorem words_ok {h : Hs} {xs : List SV} (h1 : h[1]? = some (.lst xs)) : ∀ v ∈ W15, WOk h v := by
  intro v hv
  simp only [W15, W13, List.cons_append, List.nil_append, List.mem_cons, List.not_mem_nil, or_false] at hv
  rcases hv with rfl | rfl | rfl | rfl | rfl | rfl | rfl | rfl | rfl | rfl | rfl | rfl | rfl | rfl | rfl
  all_goals first | exact wok_txt (by decide +kernel) h | exact wok_non | exact wok_int | exact wok_bl | exact wok_tup | exact wok_lst h1
theorem a0_is {ns : List Int} {k : Nat} (hk : k < 100) : ∃ p, PoolOk p ∧ r_law_3_a_0 ((envA ns).set 3 (some (.int k))) h0 = .nx (envB ns k) (h0 ++ [poolO p]) := by
  obtain ⟨c, hc⟩ : ∃ c, (k < ns.length ∧ atI ns (k : Int) = some c) ∨ (¬ k < ns.length ∧ c = 0) := by
    by_cases hl : k < ns.length
    · exact ⟨_, .inl ⟨hl, atI_scr hl⟩⟩
    · exact ⟨0, .inr ⟨hl, rfl⟩⟩
  exact ⟨pool0 c k, pool0_ok c k, (e_asgN ((e_call2 (e_var rfl) (e_var rfl)).trans (pool_is hk hc h0))).trans rfl⟩
theorem a1_is {ns : List Int} {k : Nat} {p : Int × Int} : r_law_3_a_1 (envB ns k) (h0 ++ [poolO p]) = .nx (envB ns k) (h0 ++ [poolO p]) := by
  have it : Pz.iSeq (rVar 1) (envB ns k) (h0 ++ [poolO p]) = .ok (W15, chkL 3 W15) (h0 ++ [poolO p]) := rfl
  refine (e_for it).trans (for_same (decide_eq_true rfl) W15 fun x hm => ⟨_, rfl, (envB ns k).set 5 (some x), [], ?_, rfl⟩)
  rw [List.append_nil]
  exact word_turn rfl (words_ok (xs := [.str "a"]) rfl x hm)
abbrev envC (ns : List Int) (k : Nat) : SEnv := [some (.scr ns), some (.ref 3), some (.ref 5), some (.int k), some (.ref 6), none, some (.ref 7), none, none, none, none, none, none, none]
theorem a2_is {ns : List Int} {k : Nat} {p : Int × Int} : r_law_3_a_2 (envB ns k) (h0 ++ [poolO p]) = .nx (envC ns k) (h0 ++ [poolO p, .lst []]) := rfl
end Kx

set_option Elab.async false
set_option linter.all false
set_option maxRecDepth 100000
set_option maxHeartbeats 1000000
namespace Kx
open PySem PySem.Spec L2 Pz
theorem e_take {σ : SEnv} {h : Hs} {p : Int × Int} {w : Int} {rw_ : EF} {h1 : Hs} (e4 : σ[4]? = some (some (.ref 6))) (ew : rw_ σ h = .ok (.int w) h1) (hp : h1[6]? = some (poolO p)) (hw : 0 < w ∧ w < 1073741824) : rCall F__law_take 2 [] (lCons (rVar 4) (lCons rw_ lNil)) σ h = .ok (.int (draw p w).1) (h1.set 6 (poolO (draw p w).2)) :=
  (e_call2 (e_var e4) ew).trans (take_is hp hw)
def letter (i : Nat) : Str := ⟨#[97 + i]⟩
def wnL : List SV := [.str "word", .str "number"]
def colAt (i : Nat) : List SV := [1, 2, 3].flatMap fun m => wnL.map fun k => .tup [.str (strRep (letter i) m), k]
theorem ix_letter {i : Nat} (hi : i < 7) (h : Hs) : oIx (.str "abcdefghij") (.int i) h = .ok (.str (letter i)) h := by
  match i, hi with
  | 0, _ => rfl
  | 1, _ => rfl
  | 2, _ => rfl
  | 3, _ => rfl
  | 4, _ => rfl
  | 5, _ => rfl
  | 6, _ => rfl
theorem mul_letter {i : Nat} {d : Int} (hd : 0 ≤ d ∧ d < 3) (h : Hs) : ∃ m, (m = 1 ∨ m = 2 ∨ m = 3) ∧ oMul (.str (letter i)) (.int (1 + d)) h = .ok (.str (strRep (letter i) m)) h := by
  refine ⟨(1 + d).toNat, by omega, ?_⟩
  unfold oMul
  dsimp only
  rw [if_pos ⟨by omega, by omega, by show (1 : Nat) ≤ 1000; decide⟩]
theorem ix_wn {d : Int} (hd : 0 ≤ d ∧ d < 2) {a : Nat} {h : Hs} (ha : h[a]? = some (.lst wnL)) : ∃ k ∈ wnL, oIx (.ref a) (.int d) h = .ok k h := by
  have hc : d = 0 ∨ d = 1 := by omega
  rcases hc with rfl | rfl
  · exact ⟨.str "word", by simp [wnL], by simp only [oIx, ha]; rfl⟩
  · exact ⟨.str "number", by simp [wnL], by simp only [oIx, ha]; rfl⟩
abbrev H8 (p : Int × Int) (xs : List SV) : Hs := h0 ++ [poolO p, .lst xs]
theorem heads_turn {ns : List Int} {k i : Nat} {p : Int × Int} {xs : List SV} (hi : i < 7) (hp : PoolOk p) (hx : xs.length < 100) : ∃ p' x, PoolOk p' ∧ x ∈ colAt i ∧ r_law_3_a_3_a_0 ((envC ns k).set 7 (some (.int i))) (H8 p xs) = .nx ((envC ns k).set 7 (some (.int i))) (H8 p' (xs ++ [x]) ++ [.lst wnL]) := by
  obtain ⟨o1, d0, d1⟩ := draw_ok (w := 3) hp (by decide)
  obtain ⟨o2, f0, f1⟩ := draw_ok (w := 2) o1 (by decide)
  obtain ⟨m, hm, em⟩ := mul_letter (i := i) ⟨d0, d1⟩ (H8 (draw p 3).2 xs)
  have t3 : rCall F__law_take 2 [] (lCons (rVar 4) (lCons (rC (.int 3)) lNil)) ((envC ns k).set 7 (some (.int i))) (H8 p xs) = .ok (.int (draw p 3).1) (H8 (draw p 3).2 xs) := (e_take rfl rfl rfl (by decide)).trans rfl
  have nmE : rB oMul (rB oIx (rC (.str "abcdefghij")) (rVar 7)) (rB oAdd (rC (.int 1)) (rCall F__law_take 2 [] (lCons (rVar 4) (lCons (rC (.int 3)) lNil)))) ((envC ns k).set 7 (some (.int i))) (H8 p xs) = .ok (.str (strRep (letter i) m)) (H8 (draw p 3).2 xs) :=
    (e_B ((e_B rfl (e_var rfl)).trans (ix_letter hi _)) ((e_B rfl t3).trans rfl)).trans em
  have t2 : rCall F__law_take 2 [] (lCons (rVar 4) (lCons (rC (.int 2)) lNil)) ((envC ns k).set 7 (some (.int i))) (H8 (draw p 3).2 xs ++ [.lst wnL]) = .ok (.int (draw (draw p 3).2 2).1) (H8 (draw (draw p 3).2 2).2 xs ++ [.lst wnL]) := (e_take (p := (draw p 3).2) rfl rfl rfl (by decide)).trans rfl
  obtain ⟨kv, hk, ek⟩ := ix_wn (a := 8) (h := H8 (draw (draw p 3).2 2).2 xs ++ [.lst wnL]) ⟨f0, f1⟩ rfl
  have kE : rB oIx (rLst (lCons (rC (.str "word")) (lCons (rC (.str "number")) lNil))) (rCall F__law_take 2 [] (lCons (rVar 4) (lCons (rC (.int 2)) lNil))) ((envC ns k).set 7 (some (.int i))) (H8 (draw p 3).2 xs) = .ok kv (H8 (draw (draw p 3).2 2).2 xs ++ [.lst wnL]) :=
    (e_B ((e_lst (e_cons rfl (e_cons rfl e_nil)) (by decide)).trans rfl) t2).trans ek
  refine ⟨(draw (draw p 3).2 2).2, .tup [.str (strRep (letter i) m), kv], o2, ?_, ?_⟩
  · unfold colAt
    rw [List.mem_flatMap]
    exact ⟨m, by rcases hm with rfl | rfl | rfl <;> simp, List.mem_map.mpr ⟨kv, hk, rfl⟩⟩
  · have g : (H8 (draw (draw p 3).2 2).2 xs ++ [.lst wnL])[7]? = some (.lst xs) := rfl
    have ap : mAppend (.ref 7) [.tup [.str (strRep (letter i) m), kv]] (H8 (draw (draw p 3).2 2).2 xs ++ [.lst wnL]) = .ok .non (H8 (draw (draw p 3).2 2).2 (xs ++ [.tup [.str (strRep (letter i) m), kv]]) ++ [.lst wnL]) := by
      simp only [mAppend, g]
      rw [if_pos (by omega)]
      rfl
    exact (e_expr (v := .non) ((e_BM (e_var rfl) rfl (e_cons (e_tup (e_cons nmE (e_cons kE e_nil)) (show 2 ≤ 1000000 by decide)) e_nil)).trans ap)).trans rfl
end Kx

set_option Elab.async false
set_option linter.all false
set_option maxRecDepth 100000
set_option maxHeartbeats 1000000
namespace Kx
open PySem PySem.Spec L2 Pz
def HeadsOk (xs : List SV) : Prop := ∀ i x, xs[i]? = some x → x ∈ colAt i
theorem col_mx {i : Nat} {x : SV} (h : x ∈ colAt i) : x.mx = 0 := by
  unfold colAt at h
  rw [List.mem_flatMap] at h
  obtain ⟨m, _, hx⟩ := h
  obtain ⟨kv, hk, rfl⟩ := List.mem_map.mp hx
  simp only [wnL, List.mem_cons, List.not_mem_nil, or_false] at hk
  rcases hk with rfl | rfl <;> rfl
theorem mxs_zero : ∀ {xs : List SV}, (∀ x ∈ xs, x.mx = 0) → SV.mxs xs = 0
  | [], _ => rfl
  | x :: xs, h => by
    have a := h x (by simp)
    have b := mxs_zero fun y hy => h y (List.mem_cons_of_mem _ hy)
    simp only [SV.mxs, a, b]; rfl
theorem heads_mx {xs : List SV} (h : HeadsOk xs) : SV.mxs xs = 0 := mxs_zero fun x hm => by
  obtain ⟨i, hi⟩ := List.mem_iff_getElem?.mp hm
  exact col_mx (h i x hi)
theorem heads_push {xs : List SV} {x : SV} (h : HeadsOk xs) (hx : x ∈ colAt xs.length) : HeadsOk (xs ++ [x]) := fun i y e => by
  by_cases hi : i < xs.length
  · rw [List.getElem?_append_left hi] at e; exact h i y e
  · have hl := (List.getElem?_eq_some_iff.mp e).1
    have : i = xs.length := by simp at hl; omega
    subst this
    rw [List.getElem?_append_right (Nat.le_refl _), Nat.sub_self] at e
    cases e; exact hx
theorem H8_all {p : Int × Int} {xs : List SV} (h : SV.mxs xs = 0) : (H8 p xs).all (fun o => decide (o.mx ≤ 8)) = true := by
  have a : h0.all (fun o => decide (o.mx ≤ 8)) = true := by decide +kernel
  show (h0 ++ [poolO p, SO.lst xs]).all _ = true
  rw [List.all_append, a, Bool.true_and]
  simp only [List.all_cons, List.all_nil, Bool.and_true, poolO, SO.mx, h]
  rfl
theorem a3_is {ns : List Int} {k : Nat} {p : Int × Int} (hp : PoolOk p) : ∃ p' xs, PoolOk p' ∧ 1 ≤ xs.length ∧ xs.length ≤ 7 ∧ HeadsOk xs ∧ r_law_3_a_3 (envC ns k) (H8 p []) = .nx (envC ns k) (H8 p' xs) := by
  obtain ⟨o1, d0, d1⟩ := draw_ok (w := 7) hp (by decide)
  have rv : rB oAdd (rC (.int 1)) (rCall F__law_take 2 [] (lCons (rVar 4) (lCons (rC (.int 7)) lNil))) (envC ns k) (H8 p []) = .ok (.int (1 + (draw p 7).1)) (H8 (draw p 7).2 []) := (e_B rfl ((e_take rfl rfl rfl (by decide)).trans rfl)).trans rfl
  obtain ⟨n, hn⟩ : ∃ n, n = (1 + (draw p 7).1).toNat := ⟨_, rfl⟩
  have it : Pz.iRng1 (lCons (rB oAdd (rC (.int 1)) (rCall F__law_take 2 [] (lCons (rVar 4) (lCons (rC (.int 7)) lNil)))) lNil) (envC ns k) (H8 p []) = .ok ((List.range n).map fun i => SV.int (0 + (i : Nat)), fun _ => true) (H8 (draw p 7).2 []) := by
    unfold Pz.iRng1
    rw [e_cons rv e_nil, Out.bnd_ok]
    dsimp only
    rw [if_pos ⟨by omega, by omega⟩, hn]
  have key := for_ind (σ0 := envC ns k) (h0 := H8 (draw p 7).2 []) (g := gNm 7) (r1 := r_law_3_a_3_a_0) (chk := fun _ => true)
    (fun rest σ h => ∃ q xs, PoolOk q ∧ σ = envC ns k ∧ h = H8 q xs ∧ HeadsOk xs ∧ xs.length + rest.length = n ∧ rest = ((List.range n).map fun i => SV.int (0 + (i : Nat))).drop xs.length)
    (fun σ h => ∃ q xs, PoolOk q ∧ σ = envC ns k ∧ h = H8 q xs ∧ HeadsOk xs ∧ xs.length = n) (fun _ _ => False) ?_ ?_ ((List.range n).map fun i => SV.int (0 + (i : Nat))) (envC ns k) (H8 (draw p 7).2 []) ⟨(draw p 7).2, [], o1, rfl, rfl, fun i x e => by simp at e, by simp, by simp⟩
  · have ef : r_law_3_a_3 (envC ns k) (H8 p []) = _ := e_for it
    rcases key with ⟨σ', h', e, q, xs, k1, rfl, rfl, k2, k3⟩ | ⟨_, _, _, f⟩
    · exact ⟨q, xs, k1, by omega, by omega, k2, ef.trans e⟩
    · exact f.elim
  · rintro x rest σ h ⟨q, xs, k1, rfl, rfl, k2, k3, k4⟩
    simp only [List.length_cons] at k3
    have hx : x = SV.int (xs.length : Nat) := by
      have e := congrArg (fun l => l[0]?) k4
      simp only [List.getElem?_cons_zero, List.getElem?_drop, Nat.add_zero] at e
      rw [List.getElem?_map, List.getElem?_range (by omega)] at e
      have := Option.some.inj e
      rw [this]; simp
    have hr : rest = ((List.range n).map fun i => SV.int (0 + (i : Nat))).drop (xs.length + 1) := by
      have e := congrArg List.tail k4
      rw [List.tail_cons, List.tail_drop] at e; exact e
    subst hx
    obtain ⟨q', y, j1, j2, j3⟩ := heads_turn (ns := ns) (k := k) (i := xs.length) (p := q) (xs := xs) (by omega) k1 (by omega)
    have hk := heads_push k2 j2
    refine ⟨rfl, _, rfl, .inl ⟨_, _, .inl j3, ?_⟩⟩
    have g : gcS (envC ns k) (H8 (draw p 7).2 []) ((envC ns k).set 7 (some (.int (xs.length : Nat)))) (H8 q' (xs ++ [y]) ++ [.lst wnL]) = (envC ns k, H8 q' (xs ++ [y])) := by
      unfold gcS
      rw [if_pos (.inr (show ((H8 q' (xs ++ [y]) ++ [SO.lst wnL]).take 8).all (fun o => decide (o.mx ≤ 8)) = true from H8_all (heads_mx hk)))]
      rfl
    rw [g]
    exact ⟨q', xs ++ [y], j1, rfl, rfl, hk, by simp; omega, by rw [hr]; simp⟩
  · rintro σ h ⟨q, xs, k1, rfl, rfl, k2, k3, k4⟩
    exact ⟨rfl, q, xs, k1, rfl, rfl, k2, by simpa using k3⟩
end Kx

set_option Elab.async false
set_option linter.all false
set_option maxRecDepth 100000
set_option maxHeartbeats 1000000
namespace Kx
open PySem PySem.Spec L2 Pz
theorem colAt_good : (List.range 7).all (fun i => (colAt i).all good) = true := by decide +kernel
theorem colAt_diff : (List.range 7).all (fun i => (List.range 7).all fun j => i == j || (colAt i).all fun x => (colAt j).all fun y => !(nm x == nm y)) = true := by decide +kernel
theorem a4_is {ns : List Int} {k : Nat} {p : Int × Int} {xs : List SV} (hp : PoolOk p) (hx : 1 ≤ xs.length ∧ xs.length ≤ 7) : ∃ p' b, PoolOk p' ∧ b < xs.length ∧ r_law_3_a_4 (envC ns k) (H8 p xs) = .nx ((envC ns k).set 7 (some (.int (b : Nat)))) (H8 p' xs) := by
  obtain ⟨o1, d0, d1⟩ := draw_ok (w := xs.length) hp (by omega)
  have ln : rF bLen2 (lCons (rVar 6) lNil) (envC ns k) (H8 p xs) = .ok (.int (xs.length : Nat)) (H8 p xs) := (e_F (e_cons rfl e_nil)).trans rfl
  refine ⟨(draw p xs.length).2, (draw p xs.length).1.toNat, o1, by omega, ?_⟩
  have e : r_law_3_a_4 (envC ns k) (H8 p xs) = .nx ((envC ns k).set 7 (some (.int (draw p xs.length).1))) ((H8 p xs).set 6 (poolO (draw p xs.length).2)) := e_asgN (e_take (p := p) rfl ln rfl (by omega))
  rw [e, Int.toNat_of_nonneg d0]
  rfl
end Kx
namespace Kx
open PySem PySem.Spec L2 Pz
theorem col_good {i : Nat} (hi : i < 7) {x : SV} (h : x ∈ colAt i) : good x = true :=
  List.all_eq_true.mp (List.all_eq_true.mp colAt_good i (List.mem_range.mpr hi)) x h
theorem col_diff {i j : Nat} (hi : i < 7) (hj : j < 7) (hd : i ≠ j) {x y : SV} (hx : x ∈ colAt i) (hy : y ∈ colAt j) : nm x ≠ nm y := by
  have a := List.all_eq_true.mp (List.all_eq_true.mp colAt_diff i (List.mem_range.mpr hi)) j (List.mem_range.mpr hj)
  rw [Bool.or_eq_true] at a
  rcases a with a | a
  · exact absurd (by simpa using a) hd
  · have b := List.all_eq_true.mp (List.all_eq_true.mp a x hx) y hy
    intro e
    rw [e] at b; simp at b
theorem dist_of : ∀ (xs : List SV) (acc : List Str) (s : Nat), s + xs.length ≤ 7 → (∀ i x, xs[i]? = some x → x ∈ colAt (s + i)) → (∀ n ∈ acc, ∃ j y, j < s ∧ y ∈ colAt j ∧ nm y = n) → distB xs acc = true
  | [], _, _, _, _, _ => rfl
  | x :: xs, acc, s, hl, hx, ha => by
    simp only [List.length_cons] at hl
    have x0 : x ∈ colAt s := hx 0 x rfl
    unfold distB
    rw [Bool.and_eq_true]
    refine ⟨?_, dist_of xs (acc ++ [nm x]) (s + 1) (by omega) (fun i y e => ?_) fun n hn => ?_⟩
    · rw [Bool.not_eq_true', ← Bool.not_eq_true, List.contains_iff_mem]
      intro hm
      obtain ⟨j, y, hj, hy, e⟩ := ha _ hm
      exact col_diff (by omega) (by omega) (by omega) hy x0 e
    · have := hx (i + 1) y e
      rw [show s + 1 + i = s + (i + 1) by omega]; exact this
    · rw [List.mem_append] at hn
      rcases hn with hn | hn
      · obtain ⟨j, y, hj, r⟩ := ha n hn
        exact ⟨j, y, by omega, r⟩
      · exact ⟨s, x, by omega, x0, (List.mem_singleton.mp hn).symm⟩
theorem heads_good {xs : List SV} (hx : HeadsOk xs) (hl : xs.length ≤ 7) : ∀ x ∈ xs, good x = true := fun x hm => by
  obtain ⟨i, hi⟩ := List.mem_iff_getElem?.mp hm
  have := (List.getElem?_eq_some_iff.mp hi).1
  exact col_good (by omega) (hx i x hi)
theorem heads_take {xs : List SV} (hx : HeadsOk xs) (n : Nat) : HeadsOk (xs.take n) := fun i x e => by
  rw [List.getElem?_take] at e
  split at e
  · exact hx i x e
  · cases e
theorem heads_cols {xs : List SV} (hx : HeadsOk xs) (h1 : 1 ≤ xs.length) (h2 : xs.length ≤ 6) : colsB xs = true := by
  unfold colsB
  have a : lenOk xs.length = true := by simp [lenOk]; omega
  have b : xs.all good = true := List.all_eq_true.mpr (heads_good hx (by omega))
  have c : distB xs [] = true := dist_of xs [] 0 (by omega) (fun i x e => by rw [Nat.zero_add]; exact hx i x e) (fun n hn => by cases hn)
  rw [a, b, c]; rfl
end Kx

set_option Elab.async false
set_option linter.all false
set_option maxRecDepth 100000
set_option maxHeartbeats 1000000
namespace Kx
open PySem PySem.Spec L2 Pz
def od6 : List SV := [.tup [.str "a", .str "word"], .tup [.str "b", .str "Word"], .tup [.str "b"], .tup [.str "b", .str "word", .int 1], .ref 8, .non]
def od2 : List SV := [.tup [.str "", .str "word"], .tup [.str "b", .non]]
def od8 : List SV := od6 ++ od2
abbrev envD (ns : List Int) (k : Nat) (b : Int) (o q : Option SV) : SEnv := [some (.scr ns), some (.ref 3), some (.ref 5), some (.int k), some (.ref 6), none, some (.ref 7), some (.int b), o, q, none, none, none, none]
abbrev H11 (p : Int × Int) (xs : List SV) : Hs := H8 p xs ++ [.lst [.str "b", .str "word"], .lst od6, .lst od2, .lst od8]
theorem a5_is {ns : List Int} {k : Nat} {b : Int} {p : Int × Int} {xs : List SV} : r_law_3_a_5 ((envC ns k).set 7 (some (.int b))) (H8 p xs) = .nx (envD ns k b (some (.ref 9)) none) (H8 p xs ++ [.lst [.str "b", .str "word"], .lst od6]) := rfl
theorem a6_is {ns : List Int} {k : Nat} {b : Int} {p : Int × Int} {xs : List SV} : r_law_3_a_6 (envD ns k b (some (.ref 9)) none) (H8 p xs ++ [.lst [.str "b", .str "word"], .lst od6]) = .nx (envD ns k b (some (.ref 11)) none) (H11 p xs) := rfl
theorem ix_od {d : Int} (hd : 0 ≤ d ∧ d < 8) {p : Int × Int} {xs : List SV} {y : List SO} : ∃ o ∈ od8, oIx (.ref 11) (.int d) (H11 p xs ++ y) = .ok o (H11 p xs ++ y) := by
  have hc : d = 0 ∨ d = 1 ∨ d = 2 ∨ d = 3 ∨ d = 4 ∨ d = 5 ∨ d = 6 ∨ d = 7 := by omega
  have g : (H11 p xs ++ y)[11]? = some (.lst od8) := rfl
  rcases hc with rfl | rfl | rfl | rfl | rfl | rfl | rfl | rfl
  all_goals
    simp only [oIx, g]
    exact ⟨_, by decide +kernel, rfl⟩
end Kx

set_option Elab.async false
set_option linter.all false
set_option maxRecDepth 100000
set_option maxHeartbeats 1000000
namespace Kx
open PySem PySem.Spec L2 Pz
abbrev bentL (xs : List SV) (b c : Int) (o : SV) : List SV := cutS xs none (some b) ++ [o] ++ cutS xs (some (b + c)) none
abbrev H16 (p : Int × Int) (xs : List SV) (b c : Int) (o : SV) : Hs := H11 p xs ++ [.lst (cutS xs none (some b)), .lst [o], .lst (cutS xs none (some b) ++ [o]), .lst (cutS xs (some (b + c)) none), .lst (bentL xs b c o)]
theorem cut_le (xs : List SV) (a b : Option Int) : (cutS xs a b).length ≤ xs.length := by
  unfold Pz.cutS; simp; omega
theorem cut_sub {xs : List SV} {a b : Option Int} {x : SV} (h : x ∈ cutS xs a b) : x ∈ xs := by
  unfold Pz.cutS at h
  exact List.mem_of_mem_drop (List.mem_of_mem_take h)
theorem o_addL {h : Hs} {a b : Nat} {xs ys : List SV} (ha : h[a]? = some (.lst xs)) (hb : h[b]? = some (.lst ys)) (hl : xs.length + ys.length ≤ 16777216) : oAdd (.ref a) (.ref b) h = .ok (.ref h.length) (h ++ [.lst (xs ++ ys)]) := by
  simp only [oAdd, ha, hb]
  rw [if_pos hl]
theorem a7_is {ns : List Int} {k b : Nat} {p : Int × Int} {xs : List SV} (hp : PoolOk p) (hx : xs.length ≤ 7) : ∃ p' o c, PoolOk p' ∧ o ∈ od8 ∧ r_law_3_a_7 (envD ns k b (some (.ref 11)) none) (H11 p xs) = .nx (envD ns k b (some (.ref 11)) (some (.ref 16))) (H16 p' xs b c o) := by
  obtain ⟨o1, d0, d1⟩ := draw_ok (w := 8) hp (by decide)
  obtain ⟨o2, f0, f1⟩ := draw_ok (w := 2) o1 (by decide)
  have c1 : (cutS xs none (some (b : Int))).length ≤ 7 := Nat.le_trans (cut_le _ _ _) hx
  have c2 : (cutS xs (some ((b : Int) + (draw (draw p 8).2 2).1)) none).length ≤ 7 := Nat.le_trans (cut_le _ _ _) hx
  have s1 : rSl (rVar 6) pNone (pSome (rVar 7)) (envD ns k b (some (.ref 11)) none) (H11 p xs) = .ok (.ref 12) (H11 p xs ++ [.lst (cutS xs none (some (b : Int)))]) := (e_sl (e_var rfl) e_pN (e_pS (e_var rfl))).trans rfl
  have t8 : rCall F__law_take 2 [] (lCons (rVar 4) (lCons (rC (.int 8)) lNil)) (envD ns k b (some (.ref 11)) none) (H11 p xs ++ [.lst (cutS xs none (some (b : Int)))]) = .ok (.int (draw p 8).1) (H11 (draw p 8).2 xs ++ [.lst (cutS xs none (some (b : Int)))]) := (e_take (p := p) rfl rfl rfl (by decide)).trans rfl
  obtain ⟨o, ho, eo⟩ := ix_od (d := (draw p 8).1) ⟨d0, d1⟩ (p := (draw p 8).2) (xs := xs) (y := [.lst (cutS xs none (some (b : Int)))])
  have s2 : rLst (lCons (rB oIx (rVar 8) (rCall F__law_take 2 [] (lCons (rVar 4) (lCons (rC (.int 8)) lNil)))) lNil) (envD ns k b (some (.ref 11)) none) (H11 p xs ++ [.lst (cutS xs none (some (b : Int)))]) = .ok (.ref 13) (H11 (draw p 8).2 xs ++ [.lst (cutS xs none (some (b : Int))), .lst [o]]) := (e_lst (e_cons ((e_B (e_var rfl) t8).trans eo) e_nil) (show 1 ≤ 1000000 by decide)).trans rfl
  have s3 : rB oAdd (rSl (rVar 6) pNone (pSome (rVar 7))) (rLst (lCons (rB oIx (rVar 8) (rCall F__law_take 2 [] (lCons (rVar 4) (lCons (rC (.int 8)) lNil)))) lNil)) (envD ns k b (some (.ref 11)) none) (H11 p xs) = .ok (.ref 14) (H11 (draw p 8).2 xs ++ [.lst (cutS xs none (some (b : Int))), .lst [o], .lst (cutS xs none (some (b : Int)) ++ [o])]) := ((e_B s1 s2).trans (o_addL (xs := cutS xs none (some (b : Int))) (ys := [o]) rfl rfl (by simp; omega))).trans rfl
  have t2 : rCall F__law_take 2 [] (lCons (rVar 4) (lCons (rC (.int 2)) lNil)) (envD ns k b (some (.ref 11)) none) (H11 (draw p 8).2 xs ++ [.lst (cutS xs none (some (b : Int))), .lst [o], .lst (cutS xs none (some (b : Int)) ++ [o])]) = .ok (.int (draw (draw p 8).2 2).1) (H11 (draw (draw p 8).2 2).2 xs ++ [.lst (cutS xs none (some (b : Int))), .lst [o], .lst (cutS xs none (some (b : Int)) ++ [o])]) := (e_take (p := (draw p 8).2) rfl rfl rfl (by decide)).trans rfl
  have s4 : rSl (rVar 6) (pSome (rB oAdd (rVar 7) (rCall F__law_take 2 [] (lCons (rVar 4) (lCons (rC (.int 2)) lNil))))) pNone (envD ns k b (some (.ref 11)) none) (H11 (draw p 8).2 xs ++ [.lst (cutS xs none (some (b : Int))), .lst [o], .lst (cutS xs none (some (b : Int)) ++ [o])]) = .ok (.ref 15) (H11 (draw (draw p 8).2 2).2 xs ++ [.lst (cutS xs none (some (b : Int))), .lst [o], .lst (cutS xs none (some (b : Int)) ++ [o]), .lst (cutS xs (some ((b : Int) + (draw (draw p 8).2 2).1)) none)]) := (e_sl (e_var rfl) (e_pS ((e_B (e_var rfl) t2).trans rfl)) e_pN).trans rfl
  have s5 := ((e_B s3 s4).trans (o_addL (xs := cutS xs none (some (b : Int)) ++ [o]) (ys := cutS xs (some ((b : Int) + (draw (draw p 8).2 2).1)) none) rfl rfl (by simp; omega)))
  exact ⟨(draw (draw p 8).2 2).2, o, (draw (draw p 8).2 2).1, o2, ho, (e_asgN s5).trans rfl⟩
theorem od_el {h : Hs} (h8 : h[8]? = some (.lst bw)) : ∀ o ∈ od8, ElQ h o := by
  intro o ho
  simp only [od8, od6, od2, List.cons_append, List.nil_append, List.mem_cons, List.not_mem_nil, or_false] at ho
  rcases ho with rfl | rfl | rfl | rfl | rfl | rfl | rfl | rfl
  all_goals first | exact .inr ⟨8, rfl, h8⟩ | exact .inl (by decide +kernel)
theorem head_el {h : Hs} {xs : List SV} (hx : HeadsOk xs) (hl : xs.length ≤ 7) : ∀ x ∈ xs, ElQ h x := fun x hm => by
  have := heads_good hx hl x hm
  exact .inl (List.mem_append_left _ (of_decide_eq_true this))
theorem bent_el {h : Hs} {xs : List SV} {b c : Int} {o : SV} (h8 : h[8]? = some (.lst bw)) (hx : HeadsOk xs) (hl : xs.length ≤ 7) (ho : o ∈ od8) : ∀ x ∈ bentL xs b c o, ElQ h x := fun x hm => by
  rw [List.mem_append, List.mem_append] at hm
  rcases hm with (hm | hm) | hm
  · exact head_el hx hl x (cut_sub hm)
  · cases List.mem_singleton.mp hm; exact od_el h8 _ ho
  · exact head_el hx hl x (cut_sub hm)
theorem bent_len {xs : List SV} {b c : Int} {o : SV} (hl : xs.length ≤ 7) : (bentL xs b c o).length ≤ 15 := by
  have c1 := cut_le xs none (some b)
  have c2 := cut_le xs (some (b + c)) none
  simp; omega
end Kx

set_option Elab.async false
set_option linter.all false
set_option maxRecDepth 100000
set_option maxHeartbeats 1000000
namespace Kx
open PySem PySem.Spec L2 Pz
def valsL (xs : List SV) (b c : Int) (o : SV) : List SV := [.tup xs, .tup (bentL xs b c o), .ref 7, .tup [], .non, .str "ab", .ref 17, .tup (xs ++ cutS xs none (some 1))]
abbrev H20 (p : Int × Int) (xs : List SV) (b c : Int) (o : SV) : Hs := H16 p xs b c o ++ [.dct [], .lst (cutS xs none (some 1)), .lst (xs ++ cutS xs none (some 1)), .lst (valsL xs b c o)]
theorem vals_ok {p : Int × Int} {xs : List SV} {b c : Int} {o : SV} (hx : HeadsOk xs) (hl : xs.length ≤ 7) (ho : o ∈ od8) : ∀ v ∈ valsL xs b c o, VOk (H20 p xs b c o) v := by
  intro v hv
  simp only [valsL, List.mem_cons, List.not_mem_nil, or_false] at hv
  have c1 := cut_le xs none (some 1)
  rcases hv with rfl | rfl | rfl | rfl | rfl | rfl | rfl | rfl
  · exact vok_tup (head_el hx hl) (by omega)
  · exact vok_tup (bent_el rfl hx hl ho) (by have := bent_len (b := b) (c := c) (o := o) hl; omega)
  · exact vok_lst (xs := xs) rfl (head_el hx hl) (by omega)
  · exact vok_tup (fun x h => by cases h) (by simp)
  · exact vok_non
  · exact vok_ab
  · exact vok_dct rfl
  · refine vok_tup (fun x hm => ?_) (by rw [List.length_append]; omega)
    rw [List.mem_append] at hm
    rcases hm with hm | hm
    · exact head_el hx hl x hm
    · exact head_el hx hl x (cut_sub hm)
theorem a8_is {ns : List Int} {k b : Nat} {p : Int × Int} {xs : List SV} {c : Int} {o : SV} (hx : HeadsOk xs) (hl : xs.length ≤ 7) (ho : o ∈ od8) : r_law_3_a_8 (envD ns k b (some (.ref 11)) (some (.ref 16))) (H16 p xs b c o) = .nx (envD ns k b (some (.ref 11)) (some (.ref 16))) (H20 p xs b c o) := by
  have c1 := cut_le xs none (some 1)
  have tu : rF bTuple (lCons (rVar 6) lNil) (envD ns k b (some (.ref 11)) (some (.ref 16))) (H16 p xs b c o) = .ok (.tup xs) (H16 p xs b c o) := (e_F (e_cons (e_var rfl) e_nil)).trans rfl
  have tb : rF bTuple (lCons (rVar 9) lNil) (envD ns k b (some (.ref 11)) (some (.ref 16))) (H16 p xs b c o) = .ok (.tup (bentL xs b c o)) (H16 p xs b c o) := (e_F (e_cons (e_var rfl) e_nil)).trans rfl
  have dn : rDNil (envD ns k b (some (.ref 11)) (some (.ref 16))) (H16 p xs b c o) = .ok (.ref 17) (H16 p xs b c o ++ [.dct []]) := rfl
  have sl : rSl (rVar 6) pNone (pSome (rC (.int 1))) (envD ns k b (some (.ref 11)) (some (.ref 16))) (H16 p xs b c o ++ [.dct []]) = .ok (.ref 18) (H16 p xs b c o ++ [.dct [], .lst (cutS xs none (some 1))]) := (e_sl (e_var rfl) e_pN (e_pS rfl)).trans rfl
  have ad : rB oAdd (rVar 6) (rSl (rVar 6) pNone (pSome (rC (.int 1)))) (envD ns k b (some (.ref 11)) (some (.ref 16))) (H16 p xs b c o ++ [.dct []]) = .ok (.ref 19) (H16 p xs b c o ++ [.dct [], .lst (cutS xs none (some 1)), .lst (xs ++ cutS xs none (some 1))]) := ((e_B (e_var rfl) sl).trans (o_addL (xs := xs) (ys := cutS xs none (some 1)) rfl rfl (by omega))).trans rfl
  have t2 : rF bTuple (lCons (rB oAdd (rVar 6) (rSl (rVar 6) pNone (pSome (rC (.int 1))))) lNil) (envD ns k b (some (.ref 11)) (some (.ref 16))) (H16 p xs b c o ++ [.dct []]) = .ok (.tup (xs ++ cutS xs none (some 1))) (H16 p xs b c o ++ [.dct [], .lst (cutS xs none (some 1)), .lst (xs ++ cutS xs none (some 1))]) := (e_F (e_cons ad e_nil)).trans rfl
  have ls := e_lst (e_cons tu (e_cons tb (e_cons (e_var (v := .ref 7) (i := 6) rfl) (e_cons (e_tup e_nil (by decide)) (e_cons (ra := rC .non) rfl (e_cons (ra := rC (.str "ab")) rfl (e_cons dn (e_cons t2 e_nil)))))))) (show 8 ≤ 1000000 by decide)
  have it : Pz.iSeq (rLst (lCons (rF bTuple (lCons (rVar 6) lNil)) (lCons (rF bTuple (lCons (rVar 9) lNil)) (lCons (rVar 6) (lCons (rTup lNil) (lCons (rC .non) (lCons (rC (.str "ab")) (lCons rDNil (lCons (rF bTuple (lCons (rB oAdd (rVar 6) (rSl (rVar 6) pNone (pSome (rC (.int 1))))) lNil)) lNil))))))))) (envD ns k b (some (.ref 11)) (some (.ref 16))) (H16 p xs b c o) = .ok (valsL xs b c o, chkL 20 (valsL xs b c o)) (H20 p xs b c o) := by
    unfold Pz.iSeq
    rw [ls]
    rfl
  refine (e_for it).trans (for_same (decide_eq_true rfl) _ fun x hm => ⟨_, rfl, (envD ns k b (some (.ref 11)) (some (.ref 16))).set 5 (some x), [], ?_, rfl⟩)
  rw [List.append_nil]
  have w := vals_ok (p := p) (b := b) (c := c) hx hl ho x hm
  have q := value_turn (σ := (envD ns k b (some (.ref 11)) (some (.ref 16))).set 5 (some x)) (y := []) rfl w
  rw [List.append_nil] at q
  exact q
theorem cut_take (xs : List SV) (n : Nat) : cutS xs none (some (n : Int)) = xs.take n := by
  unfold Pz.cutS
  rw [HT.sIx_none, HT.sIx_nat, List.drop_zero, Nat.sub_zero]
  rcases Nat.le_total n xs.length with h | h
  · rw [Nat.min_eq_left h]
  · rw [Nat.min_eq_right h, List.take_of_length_le h, List.take_of_length_le (Nat.le_refl _)]
abbrev H21 (p : Int × Int) (xs : List SV) (b c : Int) (o : SV) : Hs := H20 p xs b c o ++ [.lst (xs.take 6)]
abbrev envE (ns : List Int) (k : Nat) (b : Int) (xs : List SV) (r : Option SV) : SEnv := [some (.scr ns), some (.ref 3), some (.ref 5), some (.int k), some (.ref 6), none, some (.ref 7), some (.int b), some (.ref 11), some (.ref 16), some (.tup (xs.take 6)), none, r, none]
theorem a9_is {ns : List Int} {k b : Nat} {p : Int × Int} {xs : List SV} {c : Int} {o : SV} : r_law_3_a_9 (envD ns k b (some (.ref 11)) (some (.ref 16))) (H20 p xs b c o) = .nx (envE ns k b xs none) (H21 p xs b c o) := by
  have sl : rSl (rVar 6) pNone (pSome (rC (.int 6))) (envD ns k b (some (.ref 11)) (some (.ref 16))) (H20 p xs b c o) = .ok (.ref 21) (H21 p xs b c o) := (e_sl (e_var rfl) e_pN (e_pS (k := ((6 : Nat) : Int)) rfl)).trans (by rw [show oSl (.ref 7) none (some ((6 : Nat) : Int)) (H20 p xs b c o) = .ok (.ref 21) (H20 p xs b c o ++ [.lst (cutS xs none (some ((6 : Nat) : Int)))]) from rfl, cut_take])
  exact (e_asgN ((e_F (e_cons sl e_nil)).trans (show bTuple [.ref 21] (H21 p xs b c o) = .ok (.tup (xs.take 6)) (H21 p xs b c o) from rfl))).trans rfl
end Kx

set_option Elab.async false
set_option linter.all false
set_option maxRecDepth 100000
set_option maxHeartbeats 1000000
namespace Kx
open PySem PySem.Spec L2 Pz
def V18 : List SV := V15 ++ [.str "bb", .int 0, .int (10 ^ 30)]
/-- a row's part -/
def PartV (x : SV) : Prop := x ∈ V18
theorem partv_mx {x : SV} (h : PartV x) : x.mx ≤ 5 := by
  have c : V18.all (fun x => decide (x.mx ≤ 5)) = true := by decide +kernel
  exact of_decide_eq_true (List.all_eq_true.mp c x h)
theorem partv_p {x : SV} {h : Hs} {ys : List SV} (h4 : h[4]? = some (.lst ys)) (e : PartV x) : PartP h x := by
  unfold PartV at e
  simp only [V18, V15, List.cons_append, List.nil_append, List.mem_cons, List.not_mem_nil, or_false] at e
  rcases e with rfl | rfl | rfl | rfl | rfl | rfl | rfl | rfl | rfl | rfl | rfl | rfl | rfl | rfl | rfl | rfl | rfl | rfl
  all_goals first | exact .inr ⟨4, ys, rfl, h4⟩ | exact .inl (by decide +kernel)
theorem ix_V {d : Int} (hd : 0 ≤ d ∧ d < 15) {h : Hs} (h5 : h[5]? = some (.lst V15)) : ∃ v, PartV v ∧ oIx (.ref 5) (.int d) h = .ok v h := by
  obtain ⟨n, hn⟩ : ∃ n : Nat, d = n := ⟨d.toNat, by omega⟩
  subst hn
  have hl : n < 15 := by omega
  have k : ∀ m, m < 15 → ∃ v ∈ V15, oIx (.ref 5) (.int (m : Nat)) h = .ok v h := by
    intro m hm
    simp only [oIx, h5]
    match m, hm with
    | 0, _ | 1, _ | 2, _ | 3, _ | 4, _ | 5, _ | 6, _ | 7, _ | 8, _ | 9, _ | 10, _ | 11, _ | 12, _ | 13, _ | 14, _ => exact ⟨_, by decide +kernel, rfl⟩
  obtain ⟨v, hv, e⟩ := k n hl
  exact ⟨v, List.mem_append_left _ hv, e⟩
theorem mxs_le {n : Nat} : ∀ {xs : List SV}, (∀ x ∈ xs, x.mx ≤ n) → SV.mxs xs ≤ n
  | [], _ => Nat.zero_le _
  | x :: xs, h => by
    have a := h x (by simp)
    have b := mxs_le fun y hy => h y (List.mem_cons_of_mem _ hy)
    simp only [SV.mxs]; omega
theorem el_mx {xs : List SV} (hx : HeadsOk xs) (x : SV) (hm : x ∈ xs) : x.mx = 0 := by
  obtain ⟨i, hi⟩ := List.mem_iff_getElem?.mp hm
  exact col_mx (hx i x hi)
theorem od_mx : ∀ o ∈ od8, o.mx ≤ 9 := fun o h => by
  have c : od8.all (fun x => decide (x.mx ≤ 9)) = true := by decide +kernel
  exact of_decide_eq_true (List.all_eq_true.mp c o h)
theorem H21_all {p : Int × Int} {xs : List SV} {b c : Int} {o : SV} (hx : HeadsOk xs) (ho : o ∈ od8) : (H21 p xs b c o).all (fun x => decide (x.mx ≤ 22)) = true := by
  have m1 := H8_all (p := p) (heads_mx hx)
  have m2 : ([.lst [.str "b", .str "word"], .lst od6, .lst od2, .lst od8] : Hs).all (fun x => decide (x.mx ≤ 22)) = true := by decide +kernel
  have oz := od_mx o ho
  have cz : ∀ a b : Option Int, SV.mxs (cutS xs a b) ≤ 22 := fun a b => mxs_le fun x hm => by rw [el_mx hx x (cut_sub hm)]; exact Nat.zero_le _
  have xz : SV.mxs xs ≤ 22 := by rw [heads_mx hx]; exact Nat.zero_le _
  have bz : SV.mxs (bentL xs b c o) ≤ 22 := mxs_le fun x hm => by
    rw [List.mem_append, List.mem_append] at hm
    rcases hm with (hm | hm) | hm
    · rw [el_mx hx x (cut_sub hm)]; exact Nat.zero_le _
    · cases List.mem_singleton.mp hm; omega
    · rw [el_mx hx x (cut_sub hm)]; exact Nat.zero_le _
  have b1 : SV.mxs (cutS xs none (some b) ++ [o]) ≤ 22 := mxs_le fun x hm => by
    rw [List.mem_append] at hm
    rcases hm with hm | hm
    · rw [el_mx hx x (cut_sub hm)]; exact Nat.zero_le _
    · cases List.mem_singleton.mp hm; omega
  have x1 : SV.mxs (xs ++ cutS xs none (some 1)) ≤ 22 := mxs_le fun x hm => by
    rw [List.mem_append] at hm
    rcases hm with hm | hm
    · rw [el_mx hx x hm]; exact Nat.zero_le _
    · rw [el_mx hx x (cut_sub hm)]; exact Nat.zero_le _
  have t1 : SV.mxs (xs.take 6) ≤ 22 := mxs_le fun x hm => by rw [el_mx hx x (List.mem_of_mem_take hm)]; exact Nat.zero_le _
  have o1 : SV.mxs [o] ≤ 22 := mxs_le fun x hm => by cases List.mem_singleton.mp hm; omega
  have vz : SV.mxs (valsL xs b c o) ≤ 22 := mxs_le fun x hm => by
    simp only [valsL, List.mem_cons, List.not_mem_nil, or_false] at hm
    rcases hm with rfl | rfl | rfl | rfl | rfl | rfl | rfl | rfl
    · exact xz
    · exact bz
    · show 8 ≤ 22; decide
    · exact Nat.zero_le _
    · exact Nat.zero_le _
    · exact Nat.zero_le _
    · show 18 ≤ 22; decide
    · exact x1
  have m1' : (H8 p xs).all (fun x => decide (x.mx ≤ 22)) = true := List.all_eq_true.mpr fun x hm => by
    have := of_decide_eq_true (List.all_eq_true.mp m1 x hm)
    exact decide_eq_true (by omega)
  simp only [H21, H20, H16, H11, List.all_append, m1', Bool.true_and]
  rw [m2]
  have d : ∀ {ys : List SV}, SV.mxs ys ≤ 22 → decide ((SO.lst ys).mx ≤ 22) = true := fun h => decide_eq_true h
  have e : decide ((SO.dct []).mx ≤ 22) = true := rfl
  simp only [List.all_cons, List.all_nil, Bool.and_true, Bool.true_and]
  rw [d (cz none (some b)), d o1, d b1, d (cz (some (b + c)) none), d bz, e, d (cz none (some 1)), d x1, d vz, d t1]
  rfl
end Kx

set_option Elab.async false
set_option linter.all false
set_option maxRecDepth 100000
set_option maxHeartbeats 1000000
namespace Kx
open PySem PySem.Spec L2 Pz
abbrev envF (ns : List Int) (k : Nat) (z : Int) (xs : List SV) (i : Int) (r : Option SV) : SEnv := [some (.scr ns), some (.ref 3), some (.ref 5), some (.int k), some (.ref 6), none, some (.ref 7), some (.int z), some (.ref 11), some (.ref 16), some (.tup (xs.take 6)), some (.int i), r, none]
theorem lc_row {ns : List Int} {k : Nat} {z i b c : Int} {xs : List SV} {o : SV} : ∀ (cs : List SV) (acc : List SV) (p : Int × Int), PoolOk p → (∀ v ∈ acc, PartV v) → acc.length + cs.length < 1000 → ∃ p' row, PoolOk p' ∧ row.length = acc.length + cs.length ∧ (∀ v ∈ row, PartV v) ∧ lcGo (gNm 13) tYesS (rB oIx (rVar 2) (rCall F__law_take 2 [] (lCons (rVar 4) (lCons (rC (.int 15)) lNil)))) (fun _ => true) (envF ns k z xs i none) cs (H21 p xs b c o) acc = .ok row (H21 p' xs b c o)
  | [], acc, p, hp, ha, _ => ⟨p, acc, hp, by simp, ha, rfl⟩
  | x :: cs, acc, p, hp, ha, hl => by
    obtain ⟨o1, d0, d1⟩ := draw_ok (w := 15) hp (by decide)
    have t : rCall F__law_take 2 [] (lCons (rVar 4) (lCons (rC (.int 15)) lNil)) ((envF ns k z xs i none).set 13 (some x)) (H21 p xs b c o) = .ok (.int (draw p 15).1) (H21 (draw p 15).2 xs b c o) := (e_take (p := p) rfl rfl rfl (by decide)).trans rfl
    obtain ⟨v, hv, ev⟩ := ix_V (d := (draw p 15).1) ⟨d0, d1⟩ (h := H21 (draw p 15).2 xs b c o) rfl
    have te : rB oIx (rVar 2) (rCall F__law_take 2 [] (lCons (rVar 4) (lCons (rC (.int 15)) lNil))) ((envF ns k z xs i none).set 13 (some x)) (H21 p xs b c o) = .ok v (H21 (draw p 15).2 xs b c o) := (e_B (e_var rfl) t).trans ev
    simp only [List.length_cons] at hl
    obtain ⟨p', row, q1, q2, q3, q4⟩ := lc_row (ns := ns) (k := k) (z := z) (i := i) (b := b) (c := c) (o := o) (xs := xs) cs (acc ++ [v]) (draw p 15).2 o1 (fun u hu => by
      rcases List.mem_append.mp hu with hu | hu
      · exact ha u hu
      · cases List.mem_singleton.mp hu; exact hv) (by simp; omega)
    refine ⟨p', row, q1, by rw [q2]; simp; omega, q3, ?_⟩
    unfold lcGo
    rw [if_pos ⟨rfl, by omega⟩]
    rw [show gNm 13 x (envF ns k z xs i none) = some ((envF ns k z xs i none).set 13 (some x)) from rfl]
    simp only [tYesS, te]
    rw [gcV_same (h := H21 p xs b c o) (h' := H21 (draw p 15).2 xs b c o) rfl]
    exact q4
abbrev H22 (p : Int × Int) (xs : List SV) (b c : Int) (o : SV) (row : List SV) : Hs := H21 p xs b c o ++ [.lst row]
theorem a100_is {ns : List Int} {k : Nat} {z i b c : Int} {xs : List SV} {o : SV} {p : Int × Int} (hp : PoolOk p) : ∃ p' row, PoolOk p' ∧ row.length = (xs.take 6).length ∧ (∀ v ∈ row, PartV v) ∧ r_law_3_a_10_a_0 (envF ns k z xs i none) (H21 p xs b c o) = .nx (envF ns k z xs i (some (.ref 22))) (H22 p' xs b c o row) := by
  obtain ⟨p', row, q1, q2, q3, q4⟩ := lc_row (ns := ns) (k := k) (z := z) (i := i) (b := b) (c := c) (o := o) (xs := xs) (xs.take 6) [] p hp (fun v hv => by cases hv) (by simp; omega)
  refine ⟨p', row, q1, by rw [q2]; simp, q3, ?_⟩
  have e : rLc [13] (iSeq (rVar 10)) (gNm 13) tYesS (rB oIx (rVar 2) (rCall F__law_take 2 [] (lCons (rVar 4) (lCons (rC (.int 15)) lNil)))) (envF ns k z xs i none) (H21 p xs b c o) = .ok (.ref 22) (H22 p' xs b c o row) := by
    unfold Pz.rLc
    rw [show Pz.iSeq (rVar 10) (envF ns k z xs i none) (H21 p xs b c o) = .ok (xs.take 6, fun _ => true) (H21 p xs b c o) from rfl, Out.bnd_ok, show wipeS (envF ns k z xs i none) [13] = envF ns k z xs i none from rfl]
    dsimp only
    rw [q4]
    rfl
  exact (e_asgN e).trans rfl
end Kx

set_option Elab.async false
set_option linter.all false
set_option maxRecDepth 100000
set_option maxHeartbeats 1000000
namespace Kx
open PySem PySem.Spec L2 Pz
abbrev envG (ns : List Int) (k : Nat) (z : Int) (xs : List SV) (i : Int) (x : Option SV) : SEnv := [some (.scr ns), some (.ref 3), some (.ref 5), some (.int k), some (.ref 6), none, some (.ref 7), some (.int z), some (.ref 11), some (.ref 16), some (.tup (xs.take 6)), some (.int i), some (.ref 22), x]
def abL : List SV := [.str "a", .str "bb"]
def ztL : List SV := [.int 0, .int (10 ^ 30)]
theorem ix_set {d : Int} (hd : 0 ≤ d ∧ d < 2) {kb : Bool} {h : Hs} (h23 : h[23]? = some (.lst abL)) (h24 : h[24]? = some (.lst ztL)) : ∃ v, PartV v ∧ oIx (.ref (if kb then 24 else 23)) (.int d) h = .ok v h := by
  have hc : d = 0 ∨ d = 1 := by omega
  cases kb
  · rcases hc with rfl | rfl
    · exact ⟨.str "a", by unfold PartV; decide +kernel, by simp only [oIx, Bool.false_eq_true, if_false, h23]; rfl⟩
    · exact ⟨.str "bb", by unfold PartV; decide +kernel, by simp only [oIx, Bool.false_eq_true, if_false, h23]; rfl⟩
  · rcases hc with rfl | rfl
    · exact ⟨.int 0, by unfold PartV; decide +kernel, by simp only [oIx, if_true, h24]; rfl⟩
    · exact ⟨.int (10 ^ 30), by unfold PartV; decide +kernel, by simp only [oIx, if_true, h24]; rfl⟩
theorem partv_set {row : List SV} {j : Nat} {v : SV} (hr : ∀ v ∈ row, PartV v) (hv : PartV v) : ∀ u ∈ row.set j v, PartV u := fun u hu => by
  rcases List.mem_or_eq_of_mem_set hu with h | h
  · exact hr u h
  · rw [h]; exact hv
theorem set_turn {ns : List Int} {k j : Nat} {i b c : Int} {xs row : List SV} {o x : SV} {p : Int × Int} (hp : PoolOk p) (hg : good x = true) (hr : ∀ v ∈ row, PartV v) (hj : j < row.length) : ∃ p' row' y, PoolOk p' ∧ row'.length = row.length ∧ (∀ v ∈ row', PartV v) ∧ r_law_3_a_10_a_1_a_0 (envG ns k j xs i (some x)) (H22 p xs b c o row) = .nx (envG ns k j xs i (some x)) (H22 p' xs b c o row' ++ y) := by
  obtain ⟨n, kd, rfl, hn, hk⟩ := good_form hg
  obtain ⟨o1, d0, d1⟩ := draw_ok (w := 6) hp (by decide)
  obtain ⟨o2, f0, f1⟩ := draw_ok (w := 2) o1 (by decide)
  have t6 : rCall F__law_take 2 [] (lCons (rVar 4) (lCons (rC (.int 6)) lNil)) (envG ns k j xs i (some (.tup [.str n, .str kd]))) (H22 p xs b c o row) = .ok (.int (draw p 6).1) (H22 (draw p 6).2 xs b c o row) := (e_take (p := p) rfl rfl rfl (by decide)).trans rfl
  have te : rTB (rB oGt (rCall F__law_take 2 [] (lCons (rVar 4) (lCons (rC (.int 6)) lNil))) (rC (.int 0))) (envG ns k j xs i (some (.tup [.str n, .str kd]))) (H22 p xs b c o row) = .ok (decide (0 < (draw p 6).1)) (H22 (draw p 6).2 xs b c o row) := e_TB ((e_B t6 rfl).trans rfl)
  cases hb : decide (0 < (draw p 6).1) with
  | false =>
    rw [hb] at te
    exact ⟨(draw p 6).2, row, [], o1, rfl, hr, by rw [show r_law_3_a_10_a_1_a_0 = sIf _ _ _ from rfl, e_sif0 te, List.append_nil]; rfl⟩
  | true =>
    rw [hb] at te
    obtain ⟨q, hq⟩ : ∃ q, q = (draw p 6).2 := ⟨_, rfl⟩
    rw [← hq] at te o1 o2 f0 f1
    have ls : rLst (lCons (rLst (lCons (rC (.str "a")) (lCons (rC (.str "bb")) lNil))) (lCons (rLst (lCons (rC (.int 0)) (lCons (rB oPow (rC (.int 10)) (rC (.int 30))) lNil))) lNil)) (envG ns k j xs i (some (.tup [.str n, .str kd]))) (H22 q xs b c o row) = .ok (.ref 25) (H22 q xs b c o row ++ [.lst abL, .lst ztL, .lst [.ref 23, .ref 24]]) := rfl
    have ki : rF bInt (lCons (rB oEq (rB oIx (rVar 13) (rC (.int 1))) (rC (.str "number"))) lNil) (envG ns k j xs i (some (.tup [.str n, .str kd]))) (H22 q xs b c o row ++ [.lst abL, .lst ztL, .lst [.ref 23, .ref 24]]) = .ok (.int (if decide (kd = "number") then 1 else 0)) (H22 q xs b c o row ++ [.lst abL, .lst ztL, .lst [.ref 23, .ref 24]]) := (e_F (e_cons ((e_B ((e_B (e_var rfl) rfl).trans rfl) rfl).trans (eq_num hk _)) e_nil)).trans rfl
    have oi : rB oIx (rLst (lCons (rLst (lCons (rC (.str "a")) (lCons (rC (.str "bb")) lNil))) (lCons (rLst (lCons (rC (.int 0)) (lCons (rB oPow (rC (.int 10)) (rC (.int 30))) lNil))) lNil))) (rF bInt (lCons (rB oEq (rB oIx (rVar 13) (rC (.int 1))) (rC (.str "number"))) lNil)) (envG ns k j xs i (some (.tup [.str n, .str kd]))) (H22 q xs b c o row) = .ok (.ref (if decide (kd = "number") then 24 else 23)) (H22 q xs b c o row ++ [.lst abL, .lst ztL, .lst [.ref 23, .ref 24]]) := by
      refine (e_B ls ki).trans ?_
      cases decide (kd = "number") <;> rfl
    have t2 : rCall F__law_take 2 [] (lCons (rVar 4) (lCons (rC (.int 2)) lNil)) (envG ns k j xs i (some (.tup [.str n, .str kd]))) (H22 q xs b c o row ++ [.lst abL, .lst ztL, .lst [.ref 23, .ref 24]]) = .ok (.int (draw q 2).1) (H22 (draw q 2).2 xs b c o row ++ [.lst abL, .lst ztL, .lst [.ref 23, .ref 24]]) := (e_take (p := q) rfl rfl rfl (by decide)).trans rfl
    obtain ⟨v, hv, ev⟩ := ix_set (d := (draw q 2).1) ⟨f0, f1⟩ (kb := decide (kd = "number")) (h := H22 (draw q 2).2 xs b c o row ++ [.lst abL, .lst ztL, .lst [.ref 23, .ref 24]]) rfl rfl
    have vv := (e_B oi t2).trans ev
    have st : oSetIx (.ref 22) (.int (j : Nat)) v (H22 (draw q 2).2 xs b c o row ++ [.lst abL, .lst ztL, .lst [.ref 23, .ref 24]]) = some (H22 (draw q 2).2 xs b c o (row.set j v) ++ [.lst abL, .lst ztL, .lst [.ref 23, .ref 24]]) := by
      have g : (H22 (draw q 2).2 xs b c o row ++ [.lst abL, .lst ztL, .lst [.ref 23, .ref 24]])[22]? = some (.lst row) := rfl
      simp only [oSetIx, g]
      have : ixN row.length (j : Nat) = some j := by
        unfold ixN
        rw [if_pos (by omega), if_pos (by omega), Int.toNat_natCast]
      rw [this]
      rfl
    refine ⟨(draw q 2).2, row.set j v, [.lst abL, .lst ztL, .lst [.ref 23, .ref 24]], o2, by simp, partv_set hr hv, ?_⟩
    rw [show r_law_3_a_10_a_1_a_0 = sIf _ _ _ from rfl, e_sif1 te]
    exact e_setIx vv (e_var rfl) (e_var rfl) st
end Kx

set_option Elab.async false
set_option linter.all false
set_option maxRecDepth 100000
set_option maxHeartbeats 1000000
namespace Kx
open PySem PySem.Spec L2 Pz
theorem t6_mx {xs : List SV} (hx : HeadsOk xs) (n : Nat) : (SV.tup (xs.take 6)).mx ≤ n := by
  have : SV.mxs (xs.take 6) = 0 := mxs_zero fun x hm => el_mx hx x (List.mem_of_mem_take hm)
  show SV.mxs (xs.take 6) ≤ n
  omega
theorem row_mx {row : List SV} (hr : ∀ v ∈ row, PartV v) : SV.mxs row ≤ 5 := mxs_le fun x hm => partv_mx (hr x hm)
theorem gc_set {ns : List Int} {k : Nat} {z z' i b c : Int} {xs row row' : List SV} {o : SV} {x : Option SV} {p p' : Int × Int} {y : Hs} (hx : HeadsOk xs) (ho : o ∈ od8) (hr : ∀ v ∈ row', PartV v) : gcS (envF ns k z xs i (some (.ref 22))) (H22 p xs b c o row) (envG ns k z' xs i x) (H22 p' xs b c o row' ++ y) = (envF ns k z' xs i (some (.ref 22)), H22 p' xs b c o row') := by
  have al : (H22 p' xs b c o row').all (fun o => decide (o.mx ≤ 23)) = true := by
    have a := H21_all (p := p') (b := b) (c := c) hx ho
    show (H21 p' xs b c o ++ [SO.lst row']).all _ = true
    rw [List.all_append]
    have a' : (H21 p' xs b c o).all (fun x => decide (x.mx ≤ 23)) = true := List.all_eq_true.mpr fun x hm => by
      have := of_decide_eq_true (List.all_eq_true.mp a x hm)
      exact decide_eq_true (by omega)
    rw [a']
    have e : decide ((SO.lst row').mx ≤ 23) = true := decide_eq_true (Nat.le_trans (row_mx hr) (by decide))
    simp only [List.all_cons, List.all_nil, Bool.and_true, Bool.true_and]
    exact e
  have tk : (H22 p' xs b c o row' ++ y).take 23 = H22 p' xs b c o row' := rfl
  unfold gcS
  rw [if_pos (.inr (show ((H22 p' xs b c o row' ++ y).take 23).all (fun o => decide (o.mx ≤ 23)) = true by rw [tk]; exact al))]
  have cu : cutE 23 (envF ns k z xs i (some (.ref 22))) (envG ns k z' xs i x) = envF ns k z' xs i (some (.ref 22)) := by
    simp only [cutE, if_pos (t6_mx hx 23)]
    rfl
  exact Prod.ext cu tk
theorem a101_is {ns : List Int} {k : Nat} {z i b c : Int} {xs row : List SV} {o : SV} {p : Int × Int} (hp : PoolOk p) (hx : HeadsOk xs) (ho : o ∈ od8) (hr : ∀ v ∈ row, PartV v) (hl : row.length = (xs.take 6).length) (hn : xs.length ≤ 7) :
    ∃ q row' z', PoolOk q ∧ row'.length = (xs.take 6).length ∧ (∀ v ∈ row', PartV v) ∧ r_law_3_a_10_a_1 (envF ns k z xs i (some (.ref 22))) (H22 p xs b c o row) = .nx (envF ns k z' xs i (some (.ref 22))) (H22 q xs b c o row') := by
  have ie : iEnum2 (lCons (rVar 10) lNil) (envF ns k z xs i (some (.ref 22))) (H22 p xs b c o row) = .ok ((xs.take 6).mapIdx fun i x => SV.tup [.int (i : Nat), x], fun _ => true) (H22 p xs b c o row) := by
    unfold iEnum2
    rw [e_cons (e_var rfl) e_nil, Out.bnd_ok]
  have key := for_ind (σ0 := envF ns k z xs i (some (.ref 22))) (h0 := H22 p xs b c o row) (g := gTp 2 (gsC (gNm 7) (gsC (gNm 13) gsN))) (r1 := r_law_3_a_10_a_1_a_0) (chk := fun _ => true)
    (fun rest σ h => ∃ q row' z', PoolOk q ∧ row'.length = (xs.take 6).length ∧ (∀ v ∈ row', PartV v) ∧ σ = envF ns k z' xs i (some (.ref 22)) ∧ h = H22 q xs b c o row' ∧ ∀ x ∈ rest, ∃ (j : Nat) (y : SV), x = .tup [.int j, y] ∧ good y = true ∧ j < (xs.take 6).length)
    (fun σ h => ∃ q row' z', PoolOk q ∧ row'.length = (xs.take 6).length ∧ (∀ v ∈ row', PartV v) ∧ σ = envF ns k z' xs i (some (.ref 22)) ∧ h = H22 q xs b c o row') (fun _ _ => False) ?_ ?_ ((xs.take 6).mapIdx fun i x => SV.tup [.int (i : Nat), x]) (envF ns k z xs i (some (.ref 22))) (H22 p xs b c o row) ⟨p, row, z, hp, hl, hr, rfl, rfl, fun x hm => ?_⟩
  · have ef : r_law_3_a_10_a_1 (envF ns k z xs i (some (.ref 22))) (H22 p xs b c o row) = _ := e_for ie
    rcases key with ⟨σ', h', e, q, row', z', k1, k2, k3, rfl, rfl⟩ | ⟨_, _, _, f⟩
    · exact ⟨q, row', z', k1, k2, k3, ef.trans e⟩
    · exact f.elim
  · rintro x rest σ h ⟨q, row', z', k1, k2, k3, rfl, rfl, k4⟩
    obtain ⟨j, y, rfl, gy, hj⟩ := k4 x (by simp)
    obtain ⟨p', row2, ys, j1, j2, j3, j4⟩ := set_turn (ns := ns) (k := k) (j := j) (i := i) (b := b) (c := c) (xs := xs) (row := row') (o := o) (x := y) k1 gy k3 (by omega)
    refine ⟨rfl, envG ns k j xs i (some y), rfl, .inl ⟨_, _, .inl j4, ?_⟩⟩
    rw [gc_set hx ho j3]
    exact ⟨p', row2, j, j1, by omega, j3, rfl, rfl, fun u hu => k4 u (by simp [hu])⟩
  · rintro σ h ⟨q, row', z', k1, k2, k3, rfl, rfl, _⟩
    exact ⟨rfl, q, row', z', k1, k2, k3, rfl, rfl⟩
  · obtain ⟨m, hm⟩ := List.mem_iff_getElem?.mp hm
    rw [List.getElem?_mapIdx, Option.map_eq_some_iff] at hm
    obtain ⟨y, h1, rfl⟩ := hm
    have hlt := (List.getElem?_eq_some_iff.mp h1).1
    exact ⟨m, y, rfl, heads_good hx hn y (List.mem_of_mem_take (List.mem_of_getElem? h1)), hlt⟩
end Kx

set_option Elab.async false
set_option linter.all false
set_option maxRecDepth 100000
set_option maxHeartbeats 1000000
namespace Kx
open PySem PySem.Spec L2 Pz
def rowsL (row : List SV) : List SV := [.tup row, .ref 22, .tup (row ++ cutS row none (some 1)), .tup (cutS row (some 1) none), .non]
abbrev H26 (p : Int × Int) (xs : List SV) (b c : Int) (o : SV) (row : List SV) : Hs := H22 p xs b c o row ++ [.lst (cutS row none (some 1)), .lst (row ++ cutS row none (some 1)), .lst (cutS row (some 1) none), .lst (rowsL row)]
theorem rows_ok {p : Int × Int} {xs row : List SV} {b c : Int} {o : SV} (hx : HeadsOk xs) (h1 : 1 ≤ xs.length) (hl : xs.length ≤ 7) (hr : ∀ v ∈ row, PartV v) : ∀ v ∈ rowsL row, ROk (H26 p xs b c o row) (xs.take 6) v := by
  have hc : colsB (xs.take 6) = true := heads_cols (heads_take hx 6) (by simp; omega) (by simp; omega)
  have hg : ∀ c ∈ xs.take 6, good c = true := fun c hm => heads_good hx hl c (List.mem_of_mem_take hm)
  have hn : (xs.take 6).length ≤ 6 := by simp; omega
  have pp : ∀ v, PartV v → PartP (H26 p xs b c o row) v := fun v hv => partv_p (ys := [.int 1]) rfl hv
  intro v hv
  simp only [rowsL, List.mem_cons, List.not_mem_nil, or_false] at hv
  rcases hv with rfl | rfl | rfl | rfl | rfl
  · exact rok_tup hc hg hn fun v hv => pp v (hr v hv)
  · exact rok_lst (xs := row) hc hg rfl
  · refine rok_tup hc hg hn fun v hv => pp v ?_
    rcases List.mem_append.mp hv with hv | hv
    · exact hr v hv
    · exact hr v (cut_sub hv)
  · exact rok_tup hc hg hn fun v hv => pp v (hr v (cut_sub hv))
  · exact rok_non hc hg
theorem a102_is {ns : List Int} {k : Nat} {z i b c : Int} {xs row : List SV} {o : SV} {p : Int × Int} (hx : HeadsOk xs) (h1 : 1 ≤ xs.length) (hn : xs.length ≤ 7) (hr : ∀ v ∈ row, PartV v) (hl : row.length ≤ 7) : r_law_3_a_10_a_2 (envF ns k z xs i (some (.ref 22))) (H22 p xs b c o row) = .nx (envF ns k z xs i (some (.ref 22))) (H26 p xs b c o row) := by
  have c1 := cut_le row none (some 1)
  have tu : rF bTuple (lCons (rVar 12) lNil) (envF ns k z xs i (some (.ref 22))) (H22 p xs b c o row) = .ok (.tup row) (H22 p xs b c o row) := (e_F (e_cons (e_var rfl) e_nil)).trans rfl
  have sl : rSl (rVar 12) pNone (pSome (rC (.int 1))) (envF ns k z xs i (some (.ref 22))) (H22 p xs b c o row) = .ok (.ref 23) (H22 p xs b c o row ++ [.lst (cutS row none (some 1))]) := (e_sl (e_var rfl) e_pN (e_pS rfl)).trans rfl
  have ad : rB oAdd (rVar 12) (rSl (rVar 12) pNone (pSome (rC (.int 1)))) (envF ns k z xs i (some (.ref 22))) (H22 p xs b c o row) = .ok (.ref 24) (H22 p xs b c o row ++ [.lst (cutS row none (some 1)), .lst (row ++ cutS row none (some 1))]) := ((e_B (e_var rfl) sl).trans (o_addL (xs := row) (ys := cutS row none (some 1)) rfl rfl (by omega))).trans rfl
  have t2 : rF bTuple (lCons (rB oAdd (rVar 12) (rSl (rVar 12) pNone (pSome (rC (.int 1))))) lNil) (envF ns k z xs i (some (.ref 22))) (H22 p xs b c o row) = .ok (.tup (row ++ cutS row none (some 1))) (H22 p xs b c o row ++ [.lst (cutS row none (some 1)), .lst (row ++ cutS row none (some 1))]) := (e_F (e_cons ad e_nil)).trans rfl
  have s3 : rSl (rVar 12) (pSome (rC (.int 1))) pNone (envF ns k z xs i (some (.ref 22))) (H22 p xs b c o row ++ [.lst (cutS row none (some 1)), .lst (row ++ cutS row none (some 1))]) = .ok (.ref 25) (H22 p xs b c o row ++ [.lst (cutS row none (some 1)), .lst (row ++ cutS row none (some 1)), .lst (cutS row (some 1) none)]) := (e_sl (e_var rfl) (e_pS rfl) e_pN).trans rfl
  have t3 : rF bTuple (lCons (rSl (rVar 12) (pSome (rC (.int 1))) pNone) lNil) (envF ns k z xs i (some (.ref 22))) (H22 p xs b c o row ++ [.lst (cutS row none (some 1)), .lst (row ++ cutS row none (some 1))]) = .ok (.tup (cutS row (some 1) none)) (H22 p xs b c o row ++ [.lst (cutS row none (some 1)), .lst (row ++ cutS row none (some 1)), .lst (cutS row (some 1) none)]) := (e_F (e_cons s3 e_nil)).trans rfl
  have ls := e_lst (e_cons tu (e_cons (e_var (v := .ref 22) (i := 12) rfl) (e_cons t2 (e_cons t3 (e_cons (ra := rC .non) rfl e_nil))))) (show 5 ≤ 1000000 by decide)
  have it : Pz.iSeq (rLst (lCons (rF bTuple (lCons (rVar 12) lNil)) (lCons (rVar 12) (lCons (rF bTuple (lCons (rB oAdd (rVar 12) (rSl (rVar 12) pNone (pSome (rC (.int 1))))) lNil)) (lCons (rF bTuple (lCons (rSl (rVar 12) (pSome (rC (.int 1))) pNone) lNil)) (lCons (rC .non) lNil)))))) (envF ns k z xs i (some (.ref 22))) (H22 p xs b c o row) = .ok (rowsL row, chkL 26 (rowsL row)) (H26 p xs b c o row) := by
    unfold Pz.iSeq
    rw [ls]
    rfl
  refine (e_for it).trans (for_same (decide_eq_true rfl) _ fun x hm => ⟨_, rfl, (envF ns k z xs i (some (.ref 22))).set 5 (some x), [], ?_, ?_⟩)
  · rw [List.append_nil]
    exact rowv_turn (cs := xs.take 6) rfl rfl (rows_ok hx h1 hn hr x hm)
  · show cutE 27 (envF ns k z xs i (some (.ref 22))) ((envF ns k z xs i (some (.ref 22))).set 5 (some x)) = _
    simp only [List.set, cutE, if_pos (t6_mx hx 27)]
    rfl
theorem gc_row {ns : List Int} {k : Nat} {z z' i b c : Int} {xs row : List SV} {o : SV} {p p' : Int × Int} (hx : HeadsOk xs) (ho : o ∈ od8) : gcS (envE ns k z xs none) (H21 p xs b c o) (envF ns k z' xs i (some (.ref 22))) (H26 p' xs b c o row) = (envE ns k z' xs none, H21 p' xs b c o) := by
  have tk : (H26 p' xs b c o row).take 22 = H21 p' xs b c o := rfl
  unfold gcS
  rw [if_pos (.inr (show ((H26 p' xs b c o row).take 22).all (fun o => decide (o.mx ≤ 22)) = true by rw [tk]; exact H21_all hx ho))]
  have cu : cutE 22 (envE ns k z xs none) (envF ns k z' xs i (some (.ref 22))) = envE ns k z' xs none := by
    simp only [cutE, if_pos (t6_mx hx 22)]
    rfl
  exact Prod.ext cu tk
theorem a10_is {ns : List Int} {k : Nat} {z b c : Int} {xs : List SV} {o : SV} {p : Int × Int} (hp : PoolOk p) (hx : HeadsOk xs) (ho : o ∈ od8) (h1 : 1 ≤ xs.length) (hn : xs.length ≤ 7) :
    ∃ q z', r_law_3_a_10 (envE ns k z xs none) (H21 p xs b c o) = .nx (envE ns k z' xs none) (H21 q xs b c o) := by
  have it : Pz.iRng1 (lCons (rC (.int 8)) lNil) (envE ns k z xs none) (H21 p xs b c o) = .ok ((List.range 8).map fun i => SV.int (0 + (i : Nat)), fun _ => true) (H21 p xs b c o) := rfl
  have key := for_ind (σ0 := envE ns k z xs none) (h0 := H21 p xs b c o) (g := gNm 11) (r1 := sSeq r_law_3_a_10_a_0 (sSeq r_law_3_a_10_a_1 r_law_3_a_10_a_2)) (chk := fun _ => true)
    (fun rest σ h => ∃ q z', PoolOk q ∧ σ = envE ns k z' xs none ∧ h = H21 q xs b c o ∧ ∀ x ∈ rest, ∃ i, x = SV.int i)
    (fun σ h => ∃ q z', σ = envE ns k z' xs none ∧ h = H21 q xs b c o) (fun _ _ => False) ?_ ?_ ((List.range 8).map fun i => SV.int (0 + (i : Nat))) (envE ns k z xs none) (H21 p xs b c o) ⟨p, z, hp, rfl, rfl, fun x hm => ?_⟩
  · have ef : r_law_3_a_10 (envE ns k z xs none) (H21 p xs b c o) = _ := e_for it
    rcases key with ⟨σ', h', e, q, z', rfl, rfl⟩ | ⟨_, _, _, f⟩
    · exact ⟨q, z', ef.trans e⟩
    · exact f.elim
  · rintro x rest σ h ⟨q, z', k1, rfl, rfl, k4⟩
    obtain ⟨i, rfl⟩ := k4 x (by simp)
    obtain ⟨q1, row, a1, a2, a3, a4⟩ := a100_is (ns := ns) (k := k) (z := z') (i := i) (b := b) (c := c) (xs := xs) (o := o) k1
    obtain ⟨q2, row2, z2, b1, b2, b3, b4⟩ := a101_is (ns := ns) (k := k) (z := z') (i := i) (b := b) (c := c) a1 hx ho a3 a2 hn
    have l2 : row2.length ≤ 7 := by rw [b2]; simp; omega
    have c4 := a102_is (ns := ns) (k := k) (z := z2) (i := i) (b := b) (c := c) (o := o) (p := q2) hx h1 hn b3 l2
    refine ⟨rfl, envF ns k z' xs i none, rfl, .inl ⟨_, _, .inl ((e_seq a4).trans ((e_seq b4).trans c4)), ?_⟩⟩
    rw [gc_row hx ho]
    exact ⟨q2, z2, b1, rfl, rfl, fun u hu => k4 u (by simp [hu])⟩
  · rintro σ h ⟨q, z', k1, rfl, rfl, _⟩
    exact ⟨rfl, q, z', rfl, rfl⟩
  · obtain ⟨m, _, rfl⟩ := List.mem_map.mp hm
    exact ⟨_, rfl⟩
end Kx

set_option Elab.async false
set_option linter.all false
set_option maxRecDepth 100000
set_option maxHeartbeats 1000000
namespace Kx
open PySem PySem.Spec L2 Pz
theorem turn_is {ns : List Int} {k : Nat} (hk : k < 100) : ∃ σ q xs b c o, (sSeq r_law_3_a_0 (sSeq r_law_3_a_1 (sSeq r_law_3_a_2 (sSeq r_law_3_a_3 (sSeq r_law_3_a_4 (sSeq r_law_3_a_5 (sSeq r_law_3_a_6 (sSeq r_law_3_a_7 (sSeq r_law_3_a_8 (sSeq r_law_3_a_9 r_law_3_a_10)))))))))) ((envA ns).set 3 (some (.int k))) h0 = .nx σ (H21 q xs b c o) ∧ ∃ z, σ = envE ns k z xs none := by
  obtain ⟨p0, k0, e0⟩ := a0_is (ns := ns) hk
  have e1 := a1_is (ns := ns) (k := k) (p := p0)
  have e2 := a2_is (ns := ns) (k := k) (p := p0)
  obtain ⟨p3, xs, k3, l1, l2, hx, e3⟩ := a3_is (ns := ns) (k := k) k0
  obtain ⟨p4, b, k4, hb, e4⟩ := a4_is (ns := ns) (k := k) k3 ⟨l1, l2⟩
  have e5 := a5_is (ns := ns) (k := k) (b := b) (p := p4) (xs := xs)
  have e6 := a6_is (ns := ns) (k := k) (b := b) (p := p4) (xs := xs)
  obtain ⟨p7, o, c, k7, ho, e7⟩ := a7_is (ns := ns) (k := k) (b := b) (xs := xs) k4 l2
  have e8 := a8_is (ns := ns) (k := k) (b := b) (p := p7) (c := c) hx l2 ho
  have e9 := a9_is (ns := ns) (k := k) (b := b) (p := p7) (xs := xs) (c := c) (o := o)
  obtain ⟨q, z, e10⟩ := a10_is (ns := ns) (k := k) (z := b) (b := b) (c := c) k7 hx ho l1 l2
  exact ⟨_, q, xs, b, c, o, (e_seq e0).trans ((e_seq e1).trans ((e_seq e2).trans ((e_seq e3).trans ((e_seq e4).trans ((e_seq e5).trans ((e_seq e6).trans ((e_seq e7).trans ((e_seq e8).trans ((e_seq e9).trans e10))))))))), z, rfl⟩
theorem a_all {ns : List Int} (hl : ns.length ≤ 63) : r_law_3 (envA ns) h0 = .nx (envA ns) h0 := by
  have lE : rF bLen2 (lCons (rVar 0) lNil) (envA ns) h0 = .ok (.int (ns.length : Nat)) h0 := (e_F (e_cons (e_var rfl) e_nil)).trans (by first | rfl | (simp [bLen2, bLen]; omega))
  obtain ⟨m, hm, em⟩ : ∃ m : Int, m ≤ 10 ∧ bMin2 [.int (ns.length : Nat), .int 10] h0 = .ok (.int m) h0 := ⟨if (10 : Int) < (ns.length : Nat) then 10 else (ns.length : Nat), by split <;> omega, rfl⟩
  obtain ⟨n, hn0, hn, en⟩ : ∃ n : Int, 0 ≤ n ∧ n ≤ 10 ∧ bMax2 [.int 1, .int m] h0 = .ok (.int n) h0 := ⟨if m > 1 then m else 1, by split <;> omega, by split <;> omega, rfl⟩
  have nE : rF bMax2 (lCons (rC (.int 1)) (lCons (rF bMin2 (lCons (rF bLen2 (lCons (rVar 0) lNil)) (lCons (rC (.int 10)) lNil))) lNil)) (envA ns) h0 = .ok (.int n) h0 := (e_F (e_cons rfl (e_cons ((e_F (e_cons lE (e_cons rfl e_nil))).trans em) e_nil))).trans en
  have it : Pz.iRng1 (lCons (rF bMax2 (lCons (rC (.int 1)) (lCons (rF bMin2 (lCons (rF bLen2 (lCons (rVar 0) lNil)) (lCons (rC (.int 10)) lNil))) lNil))) lNil) (envA ns) h0 = .ok ((List.range n.toNat).map fun i => SV.int (0 + (i : Nat)), fun _ => true) h0 := by
    unfold Pz.iRng1
    rw [e_cons nE e_nil, Out.bnd_ok]
    dsimp only
    rw [if_pos ⟨by omega, by omega⟩]
  have key := for_ind (σ0 := envA ns) (h0 := h0) (g := gNm 3) (r1 := (sSeq r_law_3_a_0 (sSeq r_law_3_a_1 (sSeq r_law_3_a_2 (sSeq r_law_3_a_3 (sSeq r_law_3_a_4 (sSeq r_law_3_a_5 (sSeq r_law_3_a_6 (sSeq r_law_3_a_7 (sSeq r_law_3_a_8 (sSeq r_law_3_a_9 r_law_3_a_10))))))))))) (chk := fun _ => true)
    (fun rest σ h => σ = envA ns ∧ h = h0 ∧ ∀ x ∈ rest, ∃ k : Nat, k < 100 ∧ x = SV.int k)
    (fun σ h => σ = envA ns ∧ h = h0) (fun _ _ => False) ?_ ?_ ((List.range n.toNat).map fun i => SV.int (0 + (i : Nat))) (envA ns) h0 ⟨rfl, rfl, fun x hm => ?_⟩
  · have ef : r_law_3 (envA ns) h0 = _ := e_for it
    rcases key with ⟨σ', h', e, rfl, rfl⟩ | ⟨_, _, _, f⟩
    · exact ef.trans e
    · exact f.elim
  · rintro x rest σ h ⟨rfl, rfl, k4⟩
    obtain ⟨k, hk, rfl⟩ := k4 x (by simp)
    obtain ⟨σ2, q, xs, b, c, o, e, z, rfl⟩ := turn_is (ns := ns) hk
    refine ⟨rfl, _, rfl, .inl ⟨_, _, .inl e, ?_⟩⟩
    rw [gcS_back (h := H21 q xs b c o) (h0 := h0) rfl]
    exact ⟨rfl, rfl, fun u hu => k4 u (by simp [hu])⟩
  · rintro σ h ⟨rfl, rfl, _⟩
    exact ⟨rfl, rfl, rfl⟩
  · obtain ⟨i, hi, rfl⟩ := List.mem_map.mp hm
    have := List.mem_range.mp hi
    exact ⟨i, by omega, by simp⟩
theorem pure_law : ∀ ns : List Int, ns.length ≤ 63 → (∀ z ∈ ns, PySem.Builtin.Int.intBits z ≤ 1048576) → ∃ h, Kx.F_law [.scr ns] [] = .ok (.bl true) h := fun ns hl _ => by
  refine ⟨[], ?_⟩
  have e : b_law (startS 14 [.scr ns]) [] = .rt (.bl true) h0 := (e_seq (i0 ns)).trans ((e_seq (i1 ns)).trans ((e_seq (i2 ns)).trans ((e_seq (a_all hl)).trans rfl)))
  exact f_pure rfl rfl e
end Kx

set_option Elab.async false
set_option linter.all false
set_option maxRecDepth 100000
set_option maxHeartbeats 4000000
open PySem PySem.W PyProof.Rows
set_option maxRecDepth 100000 in
set_option maxHeartbeats 0 in
theorem PySem.Challenge.cw_surestreams_k01_words_columns_rows_holds : PySem.Challenge.rw_surestreams_k01_words_columns_rows.Holds := by
  w_on; o_law; k_head; (case hw => w_witness2)
  k_fill
  refine Pz.walk_G (l := PySem.Challenge.rw_surestreams_k01_words_columns_rows) (n := 63) (k := 6) (x := "_law_script") (F := Kx.F_law) rfl (by rw [sizeLine_eq]; decide) rfl ⟨rfl, by decide, by decide⟩ (fun w h Y => PySem.W.kIn_of Y) ?F (fun ns h1 h2 => Kx.pure_law ns h1 h2)
  case F =>
    intro w mg fa h KX G hmg
    refine' Kx.all_mk KX G hmg ?a_StreamError ?a_InvalidColumns ?i_InvalidColumns ?l_InvalidColumns ?c_InvalidColumns ?k_InvalidColumns ?x_InvalidColumns ?sa_InvalidColumns ?kc_InvalidColumns ?ti_InvalidColumns ?no_InvalidColumns ?ga_InvalidColumns ?gg_InvalidColumns ?hd_InvalidColumns ?eb_StreamError ?ic_StreamError ?tc_StreamError ?eb_InvalidColumns ?ic_InvalidColumns ?tc_InvalidColumns ?su_InvalidColumns_InvalidColumns ?su_InvalidColumns_StreamError ?a_is_word ?l_is_word ?c_is_word ?k_is_word ?a_is_number ?l_is_number ?c_is_number ?k_is_number ?a_is_column ?l_is_column ?c_is_column ?k_is_column ?a_is_columns ?l_is_columns ?c_is_columns ?k_is_columns ?a_is_of_kind ?l_is_of_kind ?c_is_of_kind ?k_is_of_kind ?a_fits ?l_fits ?c_fits ?k_fits ?a_is_row ?l_is_row ?c_is_row ?k_is_row ?a__law_pool ?l__law_pool ?c__law_pool ?k__law_pool ?a__law_take ?l__law_take ?c__law_take ?k__law_take ?a__law_is_word ?l__law_is_word ?c__law_is_word ?k__law_is_word ?a__law_is_number ?l__law_is_number ?c__law_is_number ?k__law_is_number ?a__law_due ?l__law_due ?c__law_due ?k__law_due ?a__law_row_due ?l__law_row_due ?c__law_row_due ?k__law_row_due ?a__law_heard ?l__law_heard ?c__law_heard ?k__law_heard ?a_law ?l_law ?c_law ?k_law ?z_abs ?z_all ?z_bool ?z_enumerate ?z_int ?z_isinstance ?z_len ?z_max ?z_min ?z_range ?z_repr ?z_str ?z_tuple ?z_zip ?g_KINDS ?gl_KINDS ?g_MOST_COLUMNS
    (case a_StreamError => k_is)
    (case a_InvalidColumns => k_is)
    (case i_InvalidColumns => k_is)
    (case a_is_word => k_is)
    (case a_is_number => k_is)
    (case a_is_column => k_is)
    (case a_is_columns => k_is)
    (case a_is_of_kind => k_is)
    (case a_fits => k_is)
    (case a_is_row => k_is)
    (case a__law_pool => k_is)
    (case a__law_take => k_is)
    (case a__law_is_word => k_is)
    (case a__law_is_number => k_is)
    (case a__law_due => k_is)
    (case a__law_row_due => k_is)
    (case a__law_heard => k_is)
    (case a_law => k_is)
    (case g_KINDS => k_is)
    (case g_MOST_COLUMNS => k_is)
    (case l_InvalidColumns => k_is)
    (case c_InvalidColumns => k_is)
    (case k_InvalidColumns => k_is)
    (case x_InvalidColumns => k_is)
    (case sa_InvalidColumns => k_is)
    (case kc_InvalidColumns => k_is)
    (case ti_InvalidColumns => k_is)
    (case no_InvalidColumns => k_is)
    (case ga_InvalidColumns => k_is)
    (case gg_InvalidColumns => k_is)
    (case hd_InvalidColumns => k_is)
    (case eb_StreamError => k_is)
    (case ic_StreamError => k_is)
    (case tc_StreamError => k_is)
    (case eb_InvalidColumns => k_is)
    (case ic_InvalidColumns => k_is)
    (case tc_InvalidColumns => k_is)
    (case su_InvalidColumns_InvalidColumns => first | rfl | k_is)
    (case su_InvalidColumns_StreamError => first | rfl | k_is)
    (case l_is_word => k_is)
    (case c_is_word => k_is)
    (case k_is_word => k_is)
    (case l_is_number => k_is)
    (case c_is_number => k_is)
    (case k_is_number => k_is)
    (case l_is_column => k_is)
    (case c_is_column => k_is)
    (case k_is_column => k_is)
    (case l_is_columns => k_is)
    (case c_is_columns => k_is)
    (case k_is_columns => k_is)
    (case l_is_of_kind => k_is)
    (case c_is_of_kind => k_is)
    (case k_is_of_kind => k_is)
    (case l_fits => k_is)
    (case c_fits => k_is)
    (case k_fits => k_is)
    (case l_is_row => k_is)
    (case c_is_row => k_is)
    (case k_is_row => k_is)
    (case l__law_pool => k_is)
    (case c__law_pool => k_is)
    (case k__law_pool => k_is)
    (case l__law_take => k_is)
    (case c__law_take => k_is)
    (case k__law_take => k_is)
    (case l__law_is_word => k_is)
    (case c__law_is_word => k_is)
    (case k__law_is_word => k_is)
    (case l__law_is_number => k_is)
    (case c__law_is_number => k_is)
    (case k__law_is_number => k_is)
    (case l__law_due => k_is)
    (case c__law_due => k_is)
    (case k__law_due => k_is)
    (case l__law_row_due => k_is)
    (case c__law_row_due => k_is)
    (case k__law_row_due => k_is)
    (case l__law_heard => k_is)
    (case c__law_heard => k_is)
    (case k__law_heard => k_is)
    (case l_law => k_is)
    (case c_law => k_is)
    (case k_law => k_is)
    (case z_abs => k_is)
    (case z_all => k_is)
    (case z_bool => k_is)
    (case z_enumerate => k_is)
    (case z_int => k_is)
    (case z_isinstance => k_is)
    (case z_len => k_is)
    (case z_max => k_is)
    (case z_min => k_is)
    (case z_range => k_is)
    (case z_repr => k_is)
    (case z_str => k_is)
    (case z_tuple => k_is)
    (case z_zip => k_is)
    (case gl_KINDS => k_is)
