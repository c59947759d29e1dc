package sums

import (
	"hash/crc32"
	"testing"
)

// shifted does eight times what the document says of a number's lowest bit.
func shifted(n uint32) uint32 {
	for range 8 {
		if n&1 == 1 {
			n = n>>1 ^ 3988292384
		} else {
			n >>= 1
		}
	}
	return n
}

// plain makes a sum bit by bit, in the document's words.
func plain(data []byte) uint32 {
	sum := uint32(4294967295)
	for _, b := range data {
		sum = shifted(sum ^ uint32(b))
	}
	return ^sum
}

func TestTheTableIsWhatEightShiftsMake(t *testing.T) {
	for b := range 256 {
		if got, want := ofByte(byte(b)), shifted(uint32(b)); got != want {
			t.Errorf("the sum of the byte %d is %#x, want %#x", b, got, want)
		}
	}
}

func TestSumsThatAreKnown(t *testing.T) {
	for text, want := range map[string]uint32{
		"": 0, "\x00": 0xd202ef8d, "\xff": 0xff000000, "a": 0xe8b7be43, "123456789": 0xcbf43926,
		"PL1\x00\x00\x00\x00": 0x5a626de8,
	} {
		if got := Of([]byte(text)); got != want {
			t.Errorf("Of(%q) = %#x, want %#x", text, got, want)
		}
	}
	if Of(nil) != 0 {
		t.Errorf("Of(nil) = %#x", Of(nil))
	}
}

func TestSumsOfAllPairsOfBytes(t *testing.T) {
	for n := range 1 << 16 {
		pair := []byte{byte(n), byte(n >> 8)}
		if got, want := Of(pair), plain(pair); got != want {
			t.Fatalf("Of(%v) = %#x, want %#x", pair, got, want)
		}
	}
}

func TestSumsOfLongBytes(t *testing.T) {
	data := make([]byte, 3000)
	for i := range data {
		data[i] = byte(i*i>>3 + 7*i)
		got := Of(data[:i])
		if want := plain(data[:i]); got != want {
			t.Fatalf("Of %d bytes = %#x, want %#x", i, got, want)
		}
		if want := crc32.ChecksumIEEE(data[:i]); got != want {
			t.Fatalf("Of %d bytes = %#x, but CRC-32 is %#x", i, got, want)
		}
	}
}

func TestMoreGoesOnWithASum(t *testing.T) {
	data := []byte("PB1\x00\x00\x00\x00 a sum of bytes that come in pieces \xff\xfe")
	for i := range len(data) + 1 {
		for k := i; k <= len(data); k++ {
			got := More(More(More(0, data[:i]), data[i:k]), data[k:])
			if want := plain(data); got != want {
				t.Fatalf("the sum in pieces that end at %d and %d is %#x, want %#x", i, k, got, want)
			}
		}
	}
	if got := More(77, nil); got != 77 {
		t.Errorf("nothing more changes a sum to %d", got)
	}
}
