package tests

import (
	"math"
	"math/rand/v2"
	"reflect"
	"slices"
	"strconv"
	"testing"

	"loop.example/g00904/impl"
)

func intType(size int64, signed, big bool) impl.Type {
	return impl.Type{Kind: impl.TyInt, Size: size, Signed: signed, Big: big}
}

func textType(size int64) impl.Type {
	return impl.Type{Kind: impl.TyText, Size: size}
}

func enumType(base impl.Type, names []string, nums []int64) impl.Type {
	return impl.Type{Kind: impl.TyEnum, Base: []impl.Type{base}, Names: names, Nums: nums}
}

func compoundType(size int64, members ...impl.Member) impl.Type {
	return impl.Type{Kind: impl.TyCompound, Size: size, Members: members}
}

func member(name string, offset int64, of impl.Type) impl.Member {
	return impl.Member{Name: name, Offset: offset, Type: of}
}

func arrayType(count int64, base impl.Type) impl.Type {
	return impl.Type{Kind: impl.TyArray, Count: count, Base: []impl.Type{base}}
}

func refType() impl.Type {
	return impl.Type{Kind: impl.TyRef, Size: 2}
}

// intLimits returns the least and the greatest number of a TyInt type.
func intLimits(t impl.Type) (int64, int64) {
	if t.Size == 8 {
		return math.MinInt64, math.MaxInt64
	}
	end := int64(1) << (8 * t.Size)
	if t.Signed {
		return -end / 2, end/2 - 1
	}
	return 0, end - 1
}

// allInts are all valid types of kind TyInt.
func allInts() []impl.Type {
	list := []impl.Type{intType(1, false, false), intType(1, true, false), intType(8, true, false), intType(8, true, true)}
	for _, size := range []int64{2, 4} {
		for _, signed := range []bool{false, true} {
			list = append(list, intType(size, signed, false), intType(size, signed, true))
		}
	}
	return list
}

// typeMaker draws valid types; equal seeds draw equal types.
type typeMaker struct {
	*rand.Rand
}

func newTypeMaker(seed uint64) typeMaker {
	return typeMaker{rand.New(rand.NewPCG(seed, 1))}
}

func (m typeMaker) between(low, high int64) int64 {
	return low + m.Int64N(high-low+1)
}

// draw returns a type of at most levels levels and room bytes.
func (m typeMaker) draw(levels, room int64) impl.Type {
	kind := m.between(1, 6)
	switch {
	case kind == impl.TyCompound && levels > 1:
		return m.drawCompound(levels, room)
	case kind == impl.TyArray && levels > 1:
		count := m.between(1, min(4, room))
		return arrayType(count, m.draw(levels-1, room/count))
	case kind == impl.TyRef && room >= 2:
		return refType()
	case kind == impl.TyEnum:
		return m.drawEnum(room)
	case kind == impl.TyText:
		return textType(m.between(1, min(16, room)))
	}
	return m.drawInt(room)
}

func (m typeMaker) drawInt(room int64) impl.Type {
	for {
		t := allInts()[m.IntN(12)]
		if t.Size <= room {
			return t
		}
	}
}

func (m typeMaker) drawEnum(room int64) impl.Type {
	base := m.drawInt(room)
	low, high := intLimits(base)
	nums := []int64{low, high, max(low, -1), 0, 1, 77}
	slices.Sort(nums)
	nums = slices.Compact(nums)
	for int64(len(nums)) > 1 && m.IntN(3) > 0 {
		nums = slices.Delete(nums, 0, 1)
	}
	return enumType(base, m.drawNames(len(nums)), nums)
}

func (m typeMaker) drawNames(count int) []string {
	var names []string
	for i := range count {
		name := string(rune('A'+m.IntN(26))) + strconv.Itoa(i)
		for m.IntN(4) > 0 && len(name) < 12 {
			name += "_z9Q"[m.IntN(4):][:1]
		}
		names = append(names, name)
	}
	return names
}

func (m typeMaker) drawCompound(levels, room int64) impl.Type {
	names := m.drawNames(4)
	var members []impl.Member
	end := int64(0)
	for _, name := range names[:m.between(1, 4)] {
		gap := m.between(0, 2)
		if end+gap >= room {
			break
		}
		of := m.draw(levels-1, room-end-gap)
		members = append(members, member(name, end+gap, of))
		end += gap + sizeOf(of)
	}
	if len(members) == 0 {
		return m.drawInt(room)
	}
	return compoundType(m.between(end, room), members...)
}

func sizeOf(t impl.Type) int64 {
	switch t.Kind {
	case impl.TyEnum:
		return t.Base[0].Size
	case impl.TyArray:
		return t.Count * sizeOf(t.Base[0])
	}
	return t.Size
}

func depthOf(t impl.Type) int64 {
	deepest := int64(0)
	if t.Kind == impl.TyArray {
		deepest = depthOf(t.Base[0])
	}
	for _, m := range t.Members {
		deepest = max(deepest, depthOf(m.Type))
	}
	return 1 + deepest
}

// roomy returns a copy of a type in which every slice has room for more, with
// elements there that must stay as they are.
func roomy(t impl.Type) impl.Type {
	t.Names = append(slices.Clone(t.Names), "spare", "spare")[:len(t.Names)]
	t.Nums = append(slices.Clone(t.Nums), 77, 77)[:len(t.Nums)]
	base := make([]impl.Type, 0, len(t.Base)+2)
	for _, b := range t.Base {
		base = append(base, roomy(b))
	}
	t.Base = append(base, textType(5), textType(6))[:len(base)]
	members := make([]impl.Member, 0, len(t.Members)+2)
	for _, m := range t.Members {
		members = append(members, member(m.Name, m.Offset, roomy(m.Type)))
	}
	t.Members = append(members, member("spare", 1, textType(7)), member("spare", 2, textType(8)))[:len(members)]
	return t
}

// widened returns a copy of a type with all that its slices have room for.
func widened(t impl.Type) impl.Type {
	t.Names = slices.Clone(t.Names[:cap(t.Names)])
	t.Nums = slices.Clone(t.Nums[:cap(t.Nums)])
	t.Base = slices.Clone(t.Base[:cap(t.Base)])
	for i := range t.Base {
		t.Base[i] = widened(t.Base[i])
	}
	t.Members = slices.Clone(t.Members[:cap(t.Members)])
	for i := range t.Members {
		t.Members[i].Type = widened(t.Members[i].Type)
	}
	return t
}

type region struct {
	start, end uintptr
}

// regionsOf returns the memory of all slices of a value.
func regionsOf(v reflect.Value) []region {
	var list []region
	switch v.Kind() {
	case reflect.Interface:
		return regionsOf(v.Elem())
	case reflect.Struct:
		for i := range v.NumField() {
			list = append(list, regionsOf(v.Field(i))...)
		}
	case reflect.Slice:
		if v.Cap() > 0 {
			list = append(list, region{v.Pointer(), v.Pointer() + uintptr(v.Cap())*v.Type().Elem().Size()})
		}
		for i := range v.Len() {
			list = append(list, regionsOf(v.Index(i))...)
		}
	}
	return list
}

// checkApart checks that no two slices within the values share memory.
func checkApart(t *testing.T, what string, values ...any) {
	t.Helper()
	var list []region
	for _, v := range values {
		list = append(list, regionsOf(reflect.ValueOf(v))...)
	}
	slices.SortFunc(list, func(a, b region) int { return int(a.start) - int(b.start) })
	for i := 1; i < len(list); i++ {
		if list[i].start < list[i-1].end {
			t.Errorf("%s: slices share memory", what)
		}
	}
}

// checkNew checks that no two slices within the results share memory, and none
// with the arguments, which may share memory among themselves.
func checkNew(t *testing.T, what string, arguments []any, results ...any) {
	t.Helper()
	checkApart(t, what, results...)
	old := regionsOf(reflect.ValueOf(arguments))
	for _, r := range regionsOf(reflect.ValueOf(results)) {
		for _, a := range old {
			if r.start < a.end && a.start < r.end {
				t.Errorf("%s: a result shares memory with an argument", what)
			}
		}
	}
}
