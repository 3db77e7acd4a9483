package tests

import (
	"encoding/binary"
	"fmt"
	"hash/crc32"
	"regexp"
	"slices"
	"strconv"
	"strings"
	"testing"

	"loop.example/g00904/impl"
)

func filter(kind, param int64) impl.Filter {
	return impl.Filter{Kind: kind, Param: param}
}

func optional(kind int64) impl.Filter {
	return impl.Filter{Kind: kind, Optional: true}
}

// filtersIn returns the filters of words like shuffle4, delta2, run, lz? and sum,
// and one of no kind for any other word.
func filtersIn(text string) []impl.Filter {
	var list []impl.Filter
	for _, word := range strings.Fields(text) {
		name := strings.TrimRight(word, "0123456789?")
		param, _ := strconv.ParseInt(strings.Trim(word[len(name):], "?"), 10, 64)
		kind := map[string]int64{"shuffle": 1, "delta": 2, "run": 3, "lz": 4, "sum": 5}[name]
		list = append(list, impl.Filter{Kind: kind, Param: param, Optional: strings.HasSuffix(word, "?")})
	}
	return list
}

// goodFilters are all filters that are valid.
func goodFilters() []impl.Filter {
	list := filtersIn("delta1 delta2 delta4 run run? lz lz? sum")
	for size := range int64(24) {
		list = append(list, filter(1, size+1))
	}
	return list
}

// isFilter tells what impl.ValidFilter should tell.
func isFilter(f impl.Filter) bool {
	return slices.Contains(goodFilters(), f)
}

// badFilters are filters that are not valid.
func badFilters() []impl.Filter {
	list := []impl.Filter{{}, filter(0, 1), filter(-1, 0), filter(6, 0), filter(257, 4), filter(1<<32+3, 0), filter(1, 25), filter(1, 0), filter(1, -1), filter(1, 257), filter(2, 0), filter(2, 3), filter(2, 5), filter(2, 8), filter(2, -1), filter(2, 258)}
	for kind := int64(-1); kind <= 7; kind++ {
		if kind != 3 && kind != 4 {
			list = append(list, optional(kind), impl.Filter{Kind: kind, Param: 1, Optional: true}, impl.Filter{Kind: kind, Param: 4, Optional: true})
		}
		if kind > 2 {
			list = append(list, filter(kind, 1), filter(kind, -1), impl.Filter{Kind: kind, Param: 1, Optional: true}, impl.Filter{Kind: kind, Param: 256, Optional: true})
		}
	}
	return list
}

// shuffledPlaces tells for each byte of shuffled data which byte of data it is.
func shuffledPlaces(length, size int) []int {
	var list []int
	for k := range size {
		for at := k; at < length/size*size; at += size {
			list = append(list, at)
		}
	}
	for at := length / size * size; at < length; at++ {
		list = append(list, at)
	}
	return list
}

// shuffledOf tells what impl.Shuffle should return.
func shuffledOf(data string, size int64) string {
	if size < 1 || size > 24 || len(data) > 1100 {
		return ""
	}
	var w strings.Builder
	for _, at := range shuffledPlaces(len(data), int(size)) {
		w.WriteByte(data[at])
	}
	return w.String()
}

// unshuffledOf tells what impl.Unshuffle should return.
func unshuffledOf(data string, size int64) string {
	if size < 1 || size > 24 || len(data) > 1100 {
		return ""
	}
	b := make([]byte, len(data))
	for i, at := range shuffledPlaces(len(data), int(size)) {
		b[at] = data[i]
	}
	return string(b)
}

// deltaOf tells what impl.Delta should return, and with undo what impl.Undelta should.
func deltaOf(data string, width int64, undo bool) string {
	if len(data) > 1100 {
		return ""
	}
	in, out := []byte(data), []byte(data)
	whole := len(in) - len(in)%4
	switch width {
	case 1:
		for i := 1; i < len(in); i++ {
			if out[i] = in[i] - in[i-1]; undo {
				out[i] = in[i] + out[i-1]
			}
		}
	case 2:
		whole = len(in) - len(in)%2
		for i := 2; i < whole; i += 2 {
			n := binary.LittleEndian.Uint16(in[i:]) - binary.LittleEndian.Uint16(in[i-2:])
			if undo {
				n = binary.LittleEndian.Uint16(in[i:]) + binary.LittleEndian.Uint16(out[i-2:])
			}
			binary.LittleEndian.PutUint16(out[i:], n)
		}
	case 4:
		for i := 4; i < whole; i += 4 {
			n := binary.LittleEndian.Uint32(in[i:]) - binary.LittleEndian.Uint32(in[i-4:])
			if undo {
				n = binary.LittleEndian.Uint32(in[i:]) + binary.LittleEndian.Uint32(out[i-4:])
			}
			binary.LittleEndian.PutUint32(out[i:], n)
		}
	default:
		return ""
	}
	return string(out)
}

// runsOf tells what impl.RunEncode should return.
func runsOf(data string) string {
	if len(data) > 1100 {
		return ""
	}
	var pairs []byte
	for i := range len(data) {
		last := len(pairs) - 2
		if last >= 0 && pairs[last+1] == data[i] && pairs[last] < 255 {
			pairs[last]++
		} else {
			pairs = append(pairs, 1, data[i])
		}
	}
	return string(pairs)
}

// runsFrom tells what impl.RunDecode should return.
func runsFrom(data string) (string, bool) {
	if len(data)%2 == 1 {
		return "", false
	}
	out := []byte{}
	for i := 0; i < len(data); i += 2 {
		if data[i] == 0 {
			return "", false
		}
		for range data[i] {
			out = append(out, data[i+1])
		}
		if len(out) > 1100 {
			return "", false
		}
	}
	return string(out), true
}

// tokensOf tells what impl.LzEncode should return: the greatest n with the least
// distance at each position, found by trying all of them.
func tokensOf(data string) string {
	if len(data) > 1100 {
		return ""
	}
	var out, pending []byte
	flush := func() {
		for len(pending) > 0 {
			n := min(len(pending), 128)
			out = append(append(out, byte(n-1)), pending[:n]...)
			pending = pending[n:]
		}
	}
	for at := 0; at < len(data); {
		best, distance := 0, 0
		for d := 1; d <= at; d++ {
			n := 0
			for n < 130 && at+n < len(data) && data[at+n] == data[at+n-d] {
				n++
			}
			if n > best {
				best, distance = n, d
			}
		}
		if best < 3 {
			pending = append(pending, data[at])
			at++
			continue
		}
		flush()
		out = append(out, byte(best+125), byte(distance%256), byte(distance/256))
		at += best
	}
	flush()
	return string(out)
}

// tokensFrom tells what impl.LzDecode should return.
func tokensFrom(data string) (string, bool) {
	out := ""
	for data != "" {
		token := int(data[0])
		switch {
		case token < 128 && len(data) >= token+2:
			out += data[1 : token+2]
			data = data[token+2:]
		case token >= 128 && len(data) >= 3:
			d := int(data[1]) + 256*int(data[2])
			if d == 0 || d > len(out) {
				return "", false
			}
			period := out[len(out)-d:]
			out += strings.Repeat(period, 130/d+1)[:token-125]
			data = data[3:]
		default:
			return "", false
		}
		if len(out) > 1100 {
			return "", false
		}
	}
	return out, true
}

func sumOfBytes(data string) string {
	return string(binary.LittleEndian.AppendUint32(nil, crc32.ChecksumIEEE([]byte(data))))
}

// encodedBy tells what a valid filter makes of data of at most 1100 bytes.
func encodedBy(f impl.Filter, data string) string {
	switch f.Kind {
	case 1:
		return shuffledOf(data, f.Param)
	case 2:
		return deltaOf(data, f.Param, false)
	case 3:
		return runsOf(data)
	case 4:
		return tokensOf(data)
	}
	return data + sumOfBytes(data)
}

// appliedBy tells what impl.ApplyFilter should return.
func appliedBy(f impl.Filter, data string) (string, int64) {
	if !isFilter(f) || len(data) > 1100 {
		return "", impl.ErrInvalid
	}
	result := encodedBy(f, data)
	if len(result) > 1100 {
		return "", impl.ErrFull
	}
	return result, impl.OK
}

// undoneBy tells what impl.UndoFilter should return.
func undoneBy(f impl.Filter, data string) (string, int64) {
	if !isFilter(f) || len(data) > 1100 {
		return "", impl.ErrInvalid
	}
	result, ok := "", true
	switch f.Kind {
	case 1:
		result = unshuffledOf(data, f.Param)
	case 2:
		result = deltaOf(data, f.Param, true)
	case 3:
		result, ok = runsFrom(data)
	case 4:
		result, ok = tokensFrom(data)
	case 5:
		if ok = len(data) >= 4; ok {
			result = data[:len(data)-4]
			if result+sumOfBytes(result) != data {
				return "", impl.ErrChecksum
			}
		}
	}
	if !ok {
		return "", impl.ErrCorrupt
	}
	return result, impl.OK
}

// isPipeline tells what impl.ValidPipeline should tell.
func isPipeline(list []impl.Filter) bool {
	for _, f := range list {
		if len(list) > 4 || !isFilter(f) {
			return false
		}
	}
	return true
}

// formOfPipeline tells what impl.EncodePipeline should return for a valid pipeline.
func formOfPipeline(list []impl.Filter) string {
	form := []byte{byte(len(list))}
	for _, f := range list {
		form = append(form, byte(f.Kind), byte(f.Param), map[bool]byte{true: 1}[f.Optional])
	}
	return string(form)
}

// pipelineFrom tells what impl.DecodePipeline should return.
func pipelineFrom(form string) ([]impl.Filter, bool) {
	if form == "" || form[0] > 4 || len(form) != 1+3*int(form[0]) {
		return nil, false
	}
	var list []impl.Filter
	for i := 1; i < len(form); i += 3 {
		if form[i+2] > 1 {
			return nil, false
		}
		list = append(list, impl.Filter{Kind: int64(form[i]), Param: int64(form[i+1]), Optional: form[i+2] == 1})
	}
	if !isPipeline(list) {
		return nil, false
	}
	return list, true
}

// textOfPipeline tells what impl.PipelineText should return for a valid pipeline.
func textOfPipeline(list []impl.Filter) string {
	if len(list) == 0 {
		return "none"
	}
	text := ""
	for _, f := range list {
		text += "+" + []string{"", fmt.Sprintf("shuffle(%d)", f.Param), fmt.Sprintf("delta(%d)", f.Param), "run", "lz", "sum"}[f.Kind]
		if f.Optional {
			text += "?"
		}
	}
	return text[1:]
}

const filterForm = `(shuffle\(([1-9]|1[0-9]|2[0-4])\)|delta\([124]\)|run\??|lz\??|sum)`

var pipelineForm = regexp.MustCompile(`\A(none|` + filterForm + `(\+` + filterForm + `){0,3})\z`)

// pipelineIn tells what impl.ReadPipeline should return.
func pipelineIn(text string) ([]impl.Filter, bool) {
	if !pipelineForm.MatchString(text) {
		return nil, false
	}
	if text == "none" {
		return nil, true
	}
	return filtersIn(strings.NewReplacer("(", "", ")", "", "+", " ").Replace(text)), true
}

// appliedByAll tells what impl.ApplyPipeline should return.
func appliedByAll(list []impl.Filter, data string) (string, int64, int64) {
	if !isPipeline(list) || len(data) > 512 {
		return "", 0, impl.ErrInvalid
	}
	mask := int64(0)
	for i, f := range list {
		result, code := appliedBy(f, data)
		isShorter := code == impl.OK && len(result) < len(data)
		if f.Optional && !isShorter {
			mask += 1 << i
			continue
		}
		if code != impl.OK {
			return "", 0, code
		}
		data = result
	}
	return data, mask, impl.OK
}

// isMask tells what impl.ValidMask should tell.
func isMask(list []impl.Filter, mask int64) bool {
	return isPipeline(list) && slices.Contains(masksOf(list), mask)
}

// masksOf returns the sums over all sets of optional filters.
func masksOf(list []impl.Filter) []int64 {
	masks := []int64{0}
	for i, f := range list {
		if f.Optional {
			for _, mask := range masks {
				masks = append(masks, mask+1<<i)
			}
		}
	}
	return masks
}

// undoneByAll tells what impl.UndoPipeline should return.
func undoneByAll(list []impl.Filter, mask int64, data string) (string, int64) {
	if !isMask(list, mask) || len(data) > 1100 {
		return "", impl.ErrInvalid
	}
	for i := len(list) - 1; i >= 0; i-- {
		if mask/(1<<i)%2 == 1 {
			continue
		}
		var code int64
		if data, code = undoneBy(list[i], data); code != impl.OK {
			return "", code
		}
	}
	if len(data) > 512 {
		return "", impl.ErrCorrupt
	}
	return data, impl.OK
}

// checkBytes checks data and a code that a function returns.
func checkBytes(t *testing.T, what, got string, code int64, want string, wantCode int64) {
	t.Helper()
	if got != want || code != wantCode {
		t.Errorf("%s: got %q and %d, want %q and %d", what, got, code, want, wantCode)
	}
}

// checkApply checks a filter that is applied, and that it is reversed.
func checkApply(t *testing.T, f impl.Filter, data string) (string, int64) {
	t.Helper()
	want, wantCode := appliedBy(f, data)
	result, code := impl.ApplyFilter(f, data)
	checkBytes(t, fmt.Sprintf("ApplyFilter %+v of %q", f, data), result, code, want, wantCode)
	if code == impl.OK {
		back, code := impl.UndoFilter(f, result)
		checkBytes(t, fmt.Sprintf("%+v reversed", f), back, code, data, impl.OK)
	}
	return result, code
}

func checkUndo(t *testing.T, f impl.Filter, data string) (string, int64) {
	t.Helper()
	want, wantCode := undoneBy(f, data)
	result, code := impl.UndoFilter(f, data)
	checkBytes(t, fmt.Sprintf("UndoFilter %+v of %q", f, data), result, code, want, wantCode)
	return result, code
}

// checkCompressors checks what both compressors make of data, that it is restored,
// and the bounds of its length.
func checkCompressors(t *testing.T, data string) (runs, tokens string) {
	t.Helper()
	runs, tokens = impl.RunEncode(data), impl.LzEncode(data)
	checkBytes(t, fmt.Sprintf("RunEncode %q", data), runs, 0, runsOf(data), 0)
	checkBytes(t, fmt.Sprintf("LzEncode %q", data), tokens, 0, tokensOf(data), 0)
	if len(data) > 1100 {
		return runs, tokens
	}
	back, ok := impl.RunDecode(runs)
	check(t, "runs restored", []any{back == data, ok}, []any{true, true})
	back, ok = impl.LzDecode(tokens)
	check(t, "tokens restored", []any{back == data, ok}, []any{true, true})
	// A literal token that is not the last one, and has less than 128 bytes, is
	// followed by a match of at least 3 bytes.
	if n := len(data); len(runs) > 2*n || len(tokens) > n+(n+3)/4 {
		t.Errorf("%d bytes become %d and %d", n, len(runs), len(tokens))
	}
	return runs, tokens
}

// checkDecoder checks what a decoder returns.
func checkDecoder(t *testing.T, name, data string, decode, wanted func(data string) (string, bool)) (string, bool) {
	t.Helper()
	want, wantOk := wanted(data)
	got, ok := decode(data)
	if got != want || ok != wantOk {
		t.Errorf("%s %q: got %q and %v, want %q and %v", name, data, got, ok, want, wantOk)
	}
	return got, ok
}

func checkRunDecode(t *testing.T, data string) (string, bool) {
	t.Helper()
	return checkDecoder(t, "RunDecode", data, impl.RunDecode, runsFrom)
}

func checkLzDecode(t *testing.T, data string) (string, bool) {
	t.Helper()
	return checkDecoder(t, "LzDecode", data, impl.LzDecode, tokensFrom)
}

// checkPipeline checks what does not depend on data, for a list that need not be valid.
func checkPipeline(t *testing.T, list []impl.Filter) bool {
	t.Helper()
	what := shown("pipeline", list)
	form, text := "", ""
	if isPipeline(list) {
		form, text = formOfPipeline(list), textOfPipeline(list)
		checkDecodePipeline(t, form)
		checkReadPipeline(t, text)
	}
	check(t, what, []any{impl.ValidPipeline(list), impl.EncodePipeline(list), impl.PipelineText(list)}, []any{isPipeline(list), form, text})
	for _, mask := range append(numbersFrom(-2, 18), 24, 30, 31, 32, 1<<32, 1<<62) {
		check(t, shown(what, "ValidMask", mask), impl.ValidMask(list, mask), isMask(list, mask))
	}
	return isPipeline(list)
}

// checkReader checks what a reader of forms of pipelines returns.
func checkReader(t *testing.T, name, form string, read, wanted func(form string) ([]impl.Filter, bool)) bool {
	t.Helper()
	want, wantOk := wanted(form)
	list, ok := read(form)
	if ok != wantOk || !slices.Equal(list, want) {
		t.Errorf("%s %q: got %+v and %v, want %+v and %v", name, form, list, ok, want, wantOk)
	}
	return ok
}

func checkDecodePipeline(t *testing.T, form string) bool {
	t.Helper()
	return checkReader(t, "DecodePipeline", form, impl.DecodePipeline, pipelineFrom)
}

func checkReadPipeline(t *testing.T, text string) bool {
	t.Helper()
	return checkReader(t, "ReadPipeline", text, impl.ReadPipeline, pipelineIn)
}

// checkApplyAll checks a pipeline that is applied, and that it is reversed.
func checkApplyAll(t *testing.T, list []impl.Filter, data string) (string, int64, int64) {
	t.Helper()
	want, wantMask, wantCode := appliedByAll(list, data)
	result, mask, code := impl.ApplyPipeline(list, data)
	what := fmt.Sprintf("ApplyPipeline %+v of %q", list, data)
	checkBytes(t, what, result, code, want, wantCode)
	check(t, what, mask, wantMask)
	if code == impl.OK {
		back, code := checkUndoAll(t, list, mask, result)
		checkBytes(t, fmt.Sprintf("%+v reversed", list), back, code, data, impl.OK)
	}
	return result, mask, code
}

func checkUndoAll(t *testing.T, list []impl.Filter, mask int64, data string) (string, int64) {
	t.Helper()
	want, wantCode := undoneByAll(list, mask, data)
	result, code := impl.UndoPipeline(list, mask, data)
	checkBytes(t, fmt.Sprintf("UndoPipeline %+v with %d of %q", list, mask, data), result, code, want, wantCode)
	return result, code
}

// allBytes returns so many bytes of which no three that follow each other occur
// twice, if they are at most 1200.
func allBytes(length int) string {
	var b []byte
	for i := range length {
		b = append(b, byte(i*(1+i/256*2)))
	}
	return string(b)
}

// drawBytes returns bytes of one of several kinds: random ones, few letters,
// runs, repeated parts, and numbers that increase.
func (m typeMaker) drawBytes(length int) string {
	b := make([]byte, 0, length+300)
	kind, letters, step := m.IntN(5), 1+m.IntN(4), m.IntN(9)
	for len(b) < length {
		c := byte(m.IntN(256))
		switch kind {
		case 0:
			b = append(b, c)
		case 1:
			b = append(b, "ab\x00\xff"[m.IntN(letters)])
		case 2:
			b = append(b, slices.Repeat([]byte{c}, 1+m.IntN(300))...)
		case 3:
			start := 0
			if len(b) > 0 {
				start = m.IntN(len(b))
			}
			b = append(append(b, b[start:min(len(b), start+m.IntN(150))]...), c)
		default:
			b = binary.LittleEndian.AppendUint16(b, uint16(len(b)*step+m.IntN(3)))
		}
	}
	return string(b[:length])
}

// drawLength returns a number of bytes, which is often one of the greatest.
func (m typeMaker) drawLength(most int) int {
	return []int{m.IntN(12), m.IntN(most + 1), most - m.IntN(3)}[m.IntN(3)]
}

func (m typeMaker) drawFilter() impl.Filter {
	list := goodFilters()
	if m.IntN(4) > 0 {
		list = list[:9]
	}
	return list[m.IntN(len(list))]
}

func (m typeMaker) drawPipeline() []impl.Filter {
	var list []impl.Filter
	for range m.IntN(5) {
		list = append(list, m.drawFilter())
	}
	return list
}

// roomyFilters returns a copy of a list with room for more, and filters there.
func roomyFilters(list []impl.Filter) []impl.Filter {
	return append(slices.Clone(list), filter(5, 0), filter(9, 9))[:len(list)]
}

func wideFilters(list []impl.Filter) []impl.Filter {
	return slices.Clone(list[:cap(list)])
}
