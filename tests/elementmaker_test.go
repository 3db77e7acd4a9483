package tests

import (
	"cmp"
	"encoding/binary"
	"fmt"
	"math"
	"math/big"
	"slices"
	"strconv"
	"strings"
	"testing"

	"loop.example/g00904/impl"
)

// mustType returns the type with a text form.
func mustType(t *testing.T, text string) impl.Type {
	t.Helper()
	x, ok := impl.ParseType(text)
	if !ok {
		t.Fatalf("no type: %s", text)
	}
	return x
}

// numberForm returns the TyInt type that describes the bytes of a number.
func numberForm(t impl.Type) (impl.Type, bool) {
	switch t.Kind {
	case impl.TyInt:
		return t, true
	case impl.TyEnum:
		return t.Base[0], true
	case impl.TyRef:
		return intType(2, false, false), true
	}
	return impl.Type{}, false
}

// bytesOfNumber returns the bytes of a number that fits in a TyInt type.
func bytesOfNumber(form impl.Type, n int64) string {
	if form.Big {
		return string(binary.BigEndian.AppendUint64(nil, uint64(n))[8-form.Size:])
	}
	return string(binary.LittleEndian.AppendUint64(nil, uint64(n))[:form.Size])
}

func numberOfBytes(form impl.Type, b string) int64 {
	bytes := []byte(b)
	if !form.Big {
		slices.Reverse(bytes)
	}
	n := new(big.Int).SetBytes(bytes)
	if form.Signed && bytes[0] >= 128 {
		n.Sub(n, new(big.Int).Lsh(big.NewInt(1), uint(8*len(bytes))))
	}
	return n.Int64()
}

// isElementOf tells what impl.ValidElement should tell of a valid type.
func isElementOf(t impl.Type, b string) bool {
	if int64(len(b)) != sizeOf(t) {
		return false
	}
	switch t.Kind {
	case impl.TyText:
		text, _, _ := strings.Cut(b, "\x00")
		return text+strings.Repeat("\x00", len(b)-len(text)) == b
	case impl.TyEnum:
		return slices.Contains(t.Nums, numberOfBytes(t.Base[0], b))
	case impl.TyCompound:
		gaps := []byte(b)
		for _, m := range t.Members {
			end := m.Offset + sizeOf(m.Type)
			if !isElementOf(m.Type, b[m.Offset:end]) {
				return false
			}
			clear(gaps[m.Offset:end])
		}
		return slices.Max(gaps) == 0
	case impl.TyArray:
		size := sizeOf(t.Base[0])
		for k := range t.Count {
			if !isElementOf(t.Base[0], b[k*size:][:size]) {
				return false
			}
		}
	}
	return true
}

func zeroElementOf(t impl.Type) string {
	b := make([]byte, sizeOf(t))
	switch t.Kind {
	case impl.TyEnum:
		return bytesOfNumber(t.Base[0], t.Nums[0])
	case impl.TyCompound:
		for _, m := range t.Members {
			copy(b[m.Offset:], zeroElementOf(m.Type))
		}
	case impl.TyArray:
		return strings.Repeat(zeroElementOf(t.Base[0]), int(t.Count))
	}
	return string(b)
}

func compareElementsOf(t impl.Type, a, b string) int {
	switch t.Kind {
	case impl.TyCompound:
		for _, m := range t.Members {
			end := m.Offset + sizeOf(m.Type)
			if order := compareElementsOf(m.Type, a[m.Offset:end], b[m.Offset:end]); order != 0 {
				return order
			}
		}
		return 0
	case impl.TyArray:
		for size := sizeOf(t.Base[0]); a != ""; a, b = a[size:], b[size:] {
			if order := compareElementsOf(t.Base[0], a[:size], b[:size]); order != 0 {
				return order
			}
		}
		return 0
	case impl.TyText:
		return strings.Compare(a, b)
	}
	form, _ := numberForm(t)
	return cmp.Compare(numberOfBytes(form, a), numberOfBytes(form, b))
}

// drawElement returns an element of a type and its text form.
func (m typeMaker) drawElement(t impl.Type) (b, text string) {
	switch t.Kind {
	case impl.TyText:
		return m.drawText(t.Size)
	case impl.TyEnum:
		i := m.IntN(len(t.Nums))
		return bytesOfNumber(t.Base[0], t.Nums[i]), t.Names[i]
	case impl.TyRef:
		n := m.drawNumber(0, 65535)
		return bytesOfNumber(intType(2, false, false), n), "#" + strconv.FormatInt(n, 10)
	case impl.TyCompound:
		return m.drawFields(t)
	case impl.TyArray:
		var texts []string
		for range t.Count {
			part, partText := m.drawElement(t.Base[0])
			b += part
			texts = append(texts, partText)
		}
		return b, "[" + strings.Join(texts, ",") + "]"
	}
	n := m.drawNumber(intLimits(t))
	return bytesOfNumber(t, n), strconv.FormatInt(n, 10)
}

func (m typeMaker) drawNumber(low, high int64) int64 {
	switch m.IntN(6) {
	case 0:
		return low
	case 1:
		return high
	case 2:
		return max(low, -1)
	case 3:
		return m.between(0, 9)
	}
	return max(low, min(high, int64(m.Uint64())>>m.IntN(64)))
}

func (m typeMaker) drawText(size int64) (b, text string) {
	text = `"`
	for range m.between(0, size) {
		c := []byte{byte(m.between(1, 255)), 'a', '"', '\\', ',', '}', ' ', '~', 127, 31}[m.IntN(10)]
		b += string([]byte{c})
		text += textOfByte(c)
	}
	return b + strings.Repeat("\x00", int(size)-len(b)), text + `"`
}

func textOfByte(c byte) string {
	if c < 32 || c > 126 || c == '"' || c == '\\' {
		return fmt.Sprintf(`\%02x`, c)
	}
	return string([]byte{c})
}

func (m typeMaker) drawFields(t impl.Type) (b, text string) {
	bytes := make([]byte, t.Size)
	var texts []string
	for _, f := range t.Members {
		part, partText := m.drawElement(f.Type)
		copy(bytes[f.Offset:], part)
		texts = append(texts, f.Name+"="+partText)
	}
	return string(bytes), "{" + strings.Join(texts, ",") + "}"
}

// drawElements returns some consecutive elements and their text forms.
func (m typeMaker) drawElements(t impl.Type) (data string, texts []string) {
	for range m.IntN(5) {
		b, text := m.drawElement(t)
		data += b
		texts = append(texts, text)
	}
	return data, texts
}

// drawRelated returns a type that t is convertible to.
func (m typeMaker) drawRelated(t impl.Type) impl.Type {
	for {
		if x := m.drawSimilar(t); impl.ValidType(x) {
			return x
		}
	}
}

// drawSimilar returns a type that t is convertible to if it is valid.
func (m typeMaker) drawSimilar(t impl.Type) impl.Type {
	switch t.Kind {
	case impl.TyText:
		return textType(m.between(1, 16))
	case impl.TyRef:
		return t
	case impl.TyArray:
		return arrayType(t.Count, m.drawSimilar(t.Base[0]))
	case impl.TyCompound:
		return m.drawSimilarCompound(t)
	}
	if m.IntN(2) == 0 {
		return m.drawInt(8)
	}
	x := m.drawEnum(8)
	for i, name := range t.Names {
		if i < len(x.Names) && m.IntN(4) > 0 && !slices.Contains(x.Names, name) {
			x.Names[m.IntN(len(x.Names))] = name
		}
	}
	return x
}

func (m typeMaker) drawSimilarCompound(t impl.Type) impl.Type {
	var members []impl.Member
	end := int64(0)
	for _, i := range m.Perm(len(t.Members)) {
		old := t.Members[i]
		if m.IntN(5) == 0 {
			old = member("Other"+strconv.Itoa(i), 0, m.draw(1, 4))
		}
		f := member(old.Name, end+m.between(0, 1), m.drawSimilar(old.Type))
		members = append(members, f)
		end = f.Offset + sizeOf(f.Type)
		if m.IntN(5) == 0 {
			break
		}
	}
	return compoundType(end+m.between(0, 1), members...)
}

// nearestNumberOf tells what impl.ClampNumber should tell, by exact distances.
func nearestNumberOf(t impl.Type, n int64) int64 {
	candidates := t.Nums
	if form, _ := numberForm(t); t.Kind != impl.TyEnum {
		low, high := intLimits(form)
		candidates = []int64{low, high}
		if low <= n && n <= high {
			return n
		}
	}
	nearest := candidates[0]
	for _, c := range candidates {
		far := new(big.Int).Sub(big.NewInt(c), big.NewInt(n))
		farBefore := new(big.Int).Sub(big.NewInt(nearest), big.NewInt(n))
		if far.CmpAbs(farBefore) < 0 {
			nearest = c
		}
	}
	return nearest
}

func hasNumber(t impl.Type, n int64) bool {
	if t.Kind == impl.TyEnum {
		return slices.Contains(t.Nums, n)
	}
	form, _ := numberForm(t)
	low, high := intLimits(form)
	return low <= n && n <= high
}

// convertElementOf tells what impl.ConvertElement should tell of an element of
// a type that is convertible to another one; it has failed if ok is false.
func convertElementOf(from, to impl.Type, b string, clamp bool) (converted string, ok bool) {
	switch from.Kind {
	case impl.TyText:
		text := strings.TrimRight(b, "\x00")
		if int64(len(text)) > to.Size && clamp {
			text = text[:to.Size]
		}
		return text + strings.Repeat("\x00", max(0, int(to.Size)-len(text))), int64(len(text)) <= to.Size
	case impl.TyRef:
		return b, true
	case impl.TyArray:
		size := sizeOf(from.Base[0])
		for ; b != ""; b = b[size:] {
			part, isPart := convertElementOf(from.Base[0], to.Base[0], b[:size], clamp)
			if !isPart {
				return "", false
			}
			converted += part
		}
		return converted, true
	case impl.TyCompound:
		return convertFieldsOf(from, to, b, clamp)
	}
	return convertNumberOf(from, to, b, clamp)
}

func convertFieldsOf(from, to impl.Type, b string, clamp bool) (converted string, ok bool) {
	bytes := []byte(zeroElementOf(to))
	for _, f := range to.Members {
		for _, old := range from.Members {
			if old.Name != f.Name {
				continue
			}
			part, isPart := convertElementOf(old.Type, f.Type, b[old.Offset:][:sizeOf(old.Type)], clamp)
			if !isPart {
				return "", false
			}
			copy(bytes[f.Offset:], part)
		}
	}
	return string(bytes), true
}

func convertNumberOf(from, to impl.Type, b string, clamp bool) (converted string, ok bool) {
	form, _ := numberForm(from)
	n := numberOfBytes(form, b)
	target, _ := numberForm(to)
	if from.Kind == impl.TyEnum && to.Kind == impl.TyEnum {
		name := from.Names[slices.Index(from.Nums, n)]
		if i := slices.Index(to.Names, name); i >= 0 {
			return bytesOfNumber(target, to.Nums[i]), true
		}
		return bytesOfNumber(target, nearestNumberOf(to, n)), clamp
	}
	if clamp {
		n = nearestNumberOf(to, n)
	}
	return bytesOfNumber(target, n), hasNumber(to, n)
}

// extremeElements returns elements in which every number, name and text takes
// each of its limits.
func extremeElements(t impl.Type) []string {
	switch t.Kind {
	case impl.TyText:
		return []string{strings.Repeat("\x00", int(t.Size)), strings.Repeat("\xff", int(t.Size))}
	case impl.TyCompound:
		var list []string
		for _, m := range t.Members {
			for _, part := range extremeElements(m.Type) {
				zero := zeroElementOf(t)
				list = append(list, zero[:m.Offset]+part+zero[m.Offset+int64(len(part)):])
			}
		}
		return list
	case impl.TyArray:
		var list []string
		for _, part := range extremeElements(t.Base[0]) {
			list = append(list, strings.Repeat(part, int(t.Count)), strings.Repeat(zeroElementOf(t.Base[0]), int(t.Count-1))+part)
		}
		return list
	}
	form, _ := numberForm(t)
	low, high := intLimits(form)
	nums := append([]int64{low, high, 0, 1, 2, 3, 4, 5, 6}, t.Nums...)
	var list []string
	for _, n := range nums {
		if hasNumber(t, n) {
			list = append(list, bytesOfNumber(form, n))
		}
	}
	return list
}

// badTypes are types that are not valid.
func badTypes() []impl.Type {
	i1 := intType(1, true, false)
	return []impl.Type{
		{}, {Kind: 7, Size: 2}, {Kind: -1}, {Kind: math.MinInt64}, intType(8, false, false), intType(3, true, false), intType(1, true, true), intType(0, true, false),
		intType(math.MinInt64, true, false), intType(math.MaxInt64, true, false), textType(0), textType(17), textType(-1), {Kind: impl.TyRef}, {Kind: impl.TyRef, Size: 3},
		enumType(i1, nil, nil), enumType(i1, []string{"A", "B"}, []int64{2, 1}), enumType(i1, []string{"A", "A"}, []int64{1, 2}), enumType(i1, []string{"A"}, []int64{128}),
		enumType(impl.Type{}, []string{"A"}, []int64{1}), {Kind: impl.TyEnum, Names: []string{"A"}, Nums: []int64{1}},
		compoundType(1), compoundType(0, member("A", 0, i1)), compoundType(25, member("A", 0, i1)), compoundType(1, member("A", 1, i1)), compoundType(1, member("A", -1, i1)),
		compoundType(2, member("A", 0, i1), member("A", 1, i1)), compoundType(1, member("", 0, i1)), compoundType(1, member("A", 0, impl.Type{})),
		arrayType(0, i1), arrayType(5, i1), arrayType(-1, i1), arrayType(4, intType(8, true, false)), arrayType(1, impl.Type{}), {Kind: impl.TyArray, Count: 1},
		arrayType(1, arrayType(1, arrayType(1, i1))), {Kind: impl.TyInt, Size: 1, Count: 1}, {Kind: impl.TyText, Size: 1, Names: []string{"A"}},
		selfContaining(1, 1), selfContaining(3, 1), selfContainingCompound(), selfContainingEnum(),
	}
}
