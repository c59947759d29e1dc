package coding

import (
	"hash/crc32"
	"slices"
	"strings"
	"testing"

	"palimpsest/api"
	"palimpsest/history"
)

func TestAppend(t *testing.T) {
	for _, c := range []struct {
		what      string
		got, want []byte
	}{
		{"four 0", AppendFour(nil, 0), []byte{0, 0, 0, 0}},
		{"four, the lowest first", AppendFour([]byte("x"), 0x04030201), []byte{'x', 1, 2, 3, 4}},
		{"four, all ones", AppendFour(nil, 1<<32-1), []byte{255, 255, 255, 255}},
		{"no text", AppendText([]byte("x"), ""), []byte{'x', 0}},
		{"a text", AppendText([]byte("x"), "abc"), []byte{'x', 3, 'a', 'b', 'c'}},
		{"a text of bytes", AppendText(nil, "\x00é"), []byte{3, 0, 0xc3, 0xa9}},
		{"a value", AppendVersion([]byte("x"), history.Version{Value: "v"}), []byte{'x', 0, 1, 'v'}},
		{"the empty value", AppendVersion(nil, history.Version{}), []byte{0, 0}},
		{"a deletion", AppendVersion([]byte("x"), history.Version{Deleted: true}), []byte{'x', 1}},
		{"a sum", Seal([]byte("123456789")), append([]byte("123456789"), 0x26, 0x39, 0xf4, 0xcb)},
		{"the sum of nothing", Seal(nil), []byte{0, 0, 0, 0}},
	} {
		if !slices.Equal(c.got, c.want) {
			t.Errorf("%s: %v, want %v", c.what, c.got, c.want)
		}
	}
}

func TestReaderReadsWhatWasWritten(t *testing.T) {
	longest := strings.Repeat("\xff", api.MaxValue)
	data := AppendText(AppendFour([]byte{200}, 0xfedcba98), "key")
	data = AppendVersion(data, history.Version{Value: longest})
	data = AppendVersion(data, history.Version{Deleted: true})
	data = AppendVersion(data, history.Version{})
	r := NewReader(data)
	if n := r.One(); n != 200 {
		t.Errorf("One() = %d", n)
	}
	if n := r.Four(); n != 0xfedcba98 {
		t.Errorf("Four() = %#x", n)
	}
	if key := r.Key(); key != "key" {
		t.Errorf("Key() = %q", key)
	}
	for _, want := range []history.Version{{Value: longest}, {Deleted: true}, {}} {
		if r.Done() {
			t.Errorf("Done() ahead of the end")
		}
		if got := r.Version(); got != want {
			t.Errorf("Version() = %v, want %v", got, want)
		}
	}
	if !r.Done() {
		t.Errorf("not Done() at the end")
	}
}

func TestReaderIsWrongWhereSomethingIsMissing(t *testing.T) {
	whole := AppendVersion(AppendText(AppendFour([]byte{1}, 2), "abc"), history.Version{Value: "value"})
	read := func(data []byte) bool {
		r := NewReader(data)
		r.One()
		r.Four()
		r.Key()
		r.Version()
		return r.Done()
	}
	if !read(whole) {
		t.Errorf("the whole is not right")
	}
	for n := range whole {
		if read(whole[:n:n]) {
			t.Errorf("right though only %d bytes are there", n)
		}
	}
	if read(append(whole, 0)) {
		t.Errorf("right though a byte stands behind")
	}
}

func TestReaderStaysWrong(t *testing.T) {
	r := NewReader([]byte{1, 2, 3})
	if n := r.Four(); n != 0 {
		t.Errorf("Four() of three bytes = %d", n)
	}
	if n := r.One(); n != 0 {
		t.Errorf("One() behind what was missing = %d", n)
	}
	if v := r.Version(); v != (history.Version{}) {
		t.Errorf("Version() behind what was missing = %v", v)
	}
	if r.Done() {
		t.Errorf("Done() though something was missing")
	}
	r = NewReader([]byte{1, 'A', 1, 'a'})
	r.Key()
	if r.Key(); r.Done() {
		t.Errorf("a key behind what is none makes up for it")
	}
}

func TestReaderKnowsWhatMayBe(t *testing.T) {
	for _, key := range []string{"", "A", "abcdefghi", "a b", "\xff", strings.Repeat("a", 255)} {
		r := NewReader(AppendText(nil, key))
		if r.Key(); r.Done() {
			t.Errorf("%q is read as a key", key)
		}
	}
	for _, key := range []string{"a", "9", "abcdefgh"} {
		r := NewReader(AppendText(nil, key))
		if got := r.Key(); got != key || !r.Done() {
			t.Errorf("Key() = %q, want %q", got, key)
		}
	}
	for _, data := range []string{"\x02", "\x02\x00", "\xff", "\x00\x15" + strings.Repeat("v", 21), "\x00\x01", "\x00", ""} {
		r := NewReader([]byte(data))
		if r.Version(); r.Done() {
			t.Errorf("%q is read as a version", data)
		}
	}
}

func TestUnseal(t *testing.T) {
	data := append(Seal([]byte("content")), "behind"...)
	content, behind, right := Unseal(data, 7)
	if string(content) != "content" || string(behind) != "behind" || !right {
		t.Errorf("Unseal = %q, %q, %v", content, behind, right)
	}
	for n := range 11 {
		if _, _, right := Unseal(data[:n], 7); right {
			t.Errorf("right though only %d bytes are there", n)
		}
	}
	if content, behind, right := Unseal(data[:11], 7); string(content) != "content" || len(behind) != 0 || !right {
		t.Errorf("Unseal without more behind = %q, %q, %v", content, behind, right)
	}
	for size := range len(data) + 3 {
		if _, _, right := Unseal(data, size); right != (size == 7) {
			t.Errorf("Unseal of %d bytes: %v", size, right)
		}
	}
	for i := range 11 * 8 {
		other := slices.Clone(data)
		other[i/8] ^= 1 << (i % 8)
		if _, _, right := Unseal(other, 7); right {
			t.Errorf("right though the bit %d is changed", i)
		}
	}
	if _, behind, right := Unseal([]byte{0, 0, 0, 0, 9}, 0); !right || string(behind) != "\x09" {
		t.Errorf("the sum of nothing, which is %d, is not right", crc32.ChecksumIEEE(nil))
	}
}

func TestUnsealAll(t *testing.T) {
	for _, text := range []string{"", "c", "content", strings.Repeat("long", 1000)} {
		data := Seal([]byte(text))
		if content, right := UnsealAll(data); string(content) != text || !right {
			t.Errorf("UnsealAll(%.40q) = %.40q, %v", data, content, right)
		}
		for _, other := range [][]byte{
			append(slices.Clone(data), 0), append(slices.Clone(data), 'x'), append([]byte("x"), data...), data[:len(data)-1], data[1:],
		} {
			if content, right := UnsealAll(other); len(content) != 0 || right {
				t.Errorf("UnsealAll(%.40q) = %.40q, %v", other, content, right)
			}
		}
	}
	for n := range 4 {
		if content, right := UnsealAll(make([]byte, n)); len(content) != 0 || right {
			t.Errorf("UnsealAll of %d bytes = %q, %v", n, content, right)
		}
	}
}

func TestReaderTellsWhetherThereIsMore(t *testing.T) {
	if NewReader(nil).More() {
		t.Errorf("there is more of nothing")
	}
	r := NewReader([]byte{1, 2})
	for want := range 2 {
		if !r.More() {
			t.Errorf("there is no more behind %d of two bytes", want)
		}
		r.One()
	}
	if r.More() {
		t.Errorf("there is more behind the last byte")
	}
	r = NewReader([]byte{1, 2, 3})
	if r.Four(); r.More() {
		t.Errorf("there is more behind what was missing")
	}
	r = NewReader([]byte{1, 'A', 1, 'a'})
	if r.Key(); r.More() {
		t.Errorf("there is more behind what may not be")
	}
}
