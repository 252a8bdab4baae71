package ham

import (
	"math/bits"
	"testing"

	"keelson/api"
)

const (
	dataBits = 8 * api.Sector
	codeBits = dataBits + 13
)

// plainPlaces has the place of each data bit, counted as the chapter tells it.
func plainPlaces() []int {
	var places []int
	for p := 1; len(places) < dataBits; p++ {
		if bits.OnesCount(uint(p)) != 1 {
			places = append(places, p)
		}
	}
	return places
}

// bit gives the data bit i.
func bit(data api.Data, i int) int {
	return int(data[i/8]) >> (i % 8) & 1
}

// plainCheck is the chapter's definition, check bit by check bit.
func plainCheck(data api.Data, places []int) uint16 {
	check, all := 0, 0
	for j := range 12 {
		sum := 0
		for i, p := range places {
			sum += bit(data, i) * (p >> j & 1)
		}
		check += sum % 2 << j
		all += sum % 2
	}
	for i := range places {
		all += bit(data, i)
	}
	return uint16(check + all%2<<12)
}

// plainFix is the chapter's definition.
func plainFix(data api.Data, check uint16, places []int) (api.Data, int, api.Errno) {
	check %= 1 << 13
	s, p := 0, bits.OnesCount16(check)
	for j := range 12 {
		if (plainCheck(data, places)^check)>>j&1 == 1 {
			s += 1 << j
		}
	}
	for i := range places {
		p += bit(data, i)
	}
	p %= 2
	if s == 0 && p == 0 {
		return data, 0, api.OK
	}
	if p == 1 && bits.OnesCount(uint(s)) < 2 {
		return data, 1, api.OK
	}
	for i, place := range places {
		if p == 1 && place == s {
			data[i/8] ^= 1 << (i % 8)
			return data, 1, api.OK
		}
	}
	return api.Data{}, 0, api.ErrCorrupt
}

// turn turns the bit i of data and check together: the check bits stand behind the data's.
func turn(data api.Data, check uint16, i int) (api.Data, uint16) {
	if i < dataBits {
		data[i/8] ^= 1 << (i % 8)
		return data, check
	}
	return data, check ^ 1<<(i-dataBits)
}

// numbers gives a row of numbers, another one for each seed.
func numbers(seed uint32) func() uint32 {
	x := seed*2654435761 + 1
	return func() uint32 {
		x = x*1664525 + 1013904223
		return x >> 8
	}
}

// sample gives data, other ones for each seed.
func sample(seed uint32) api.Data {
	var data api.Data
	next := numbers(seed)
	for i := range data {
		data[i] = byte(next())
	}
	return data
}

// all gives data of which each byte is b.
func all(b byte) api.Data {
	var data api.Data
	for i := range data {
		data[i] = b
	}
	return data
}

// samples are data of many kinds.
func samples() []api.Data {
	return []api.Data{
		{}, all(255), all(0x55), all(0xaa), all(1), all(0x80),
		{0: 1}, {255: 0x80}, {0: 1, 255: 0x80}, {15: 8, 127: 255, 128: 255},
		sample(1), sample(2), sample(3), sample(4),
	}
}

// P3.1: what is known, the chapter's example first.
func TestCheckKnown(t *testing.T) {
	for _, c := range []struct {
		data api.Data
		want uint16
	}{
		{api.Data{0: 1}, 1 + 2 + 4096},
		{api.Data{}, 0},
		{api.Data{0: 2}, 5 + 4096},
		{api.Data{0: 4}, 6 + 4096},
		{api.Data{0: 8}, 7},
		{api.Data{0: 16}, 9 + 4096},
		{api.Data{0: 3}, 3 ^ 5},
		{api.Data{0: 7}, 3 ^ 5 ^ 6 + 4096},
		{api.Data{1: 8}, 17 + 4096},
		{api.Data{255: 0x80}, 2060},
		{api.Data{255: 0x40}, 2059 + 4096},
	} {
		if got := Check(c.data); got != c.want {
			t.Errorf("%v: %d, not %d", c.data, got, c.want)
		}
	}
}

// P3.1: each data bit by itself has its place as its check bits, and the bit 12 makes the whole even.
func TestCheckPlaces(t *testing.T) {
	for i, p := range plainPlaces() {
		data, _ := turn(api.Data{}, 0, i)
		want := uint16(p)
		if bits.OnesCount16(want)%2 == 0 {
			want += 1 << 12
		}
		if got := Check(data); got != want {
			t.Errorf("the bit %d: %d, not %d", i, got, want)
		}
	}
}

// P3.1: data of many kinds, against the definition; the three bits above are 0.
func TestCheck(t *testing.T) {
	places := plainPlaces()
	for n, data := range samples() {
		got := Check(data)
		if want := plainCheck(data, places); got != want {
			t.Errorf("the sample %d: %013b, not %013b", n, got, want)
		}
		if got>>13 != 0 {
			t.Errorf("the sample %d: %016b has bits above the bit 12", n, got)
		}
	}
}

// P3.2, P3.3: as many bits as were turned are told, and data that no bit of is turned stay.
func TestFixNothing(t *testing.T) {
	for n, data := range samples() {
		check := Check(data)
		for top := range uint16(8) {
			if got, mended, e := Fix(data, check|top<<13); got != data || mended != 0 || e != api.OK {
				t.Errorf("the sample %d, %03b above: %d, %v", n, top, mended, e)
			}
		}
	}
}

// P3.2, P3.3: each bit of both together, turned alone, is mended; what stands above check's bit 12 plays no part.
func TestFixOne(t *testing.T) {
	for n, data := range samples() {
		check := Check(data)
		for i := range codeBits {
			x, y := turn(data, check, i)
			y |= uint16(i%8) << 13
			if got, mended, e := Fix(x, y); got != data || mended != 1 || e != api.OK {
				t.Fatalf("the sample %d, the bit %d: %d, %v", n, i, mended, e)
			}
		}
	}
}

// corrupt tells whether Fix finds data, with check, beyond mending, and answers nothing beside that.
func corrupt(data api.Data, check uint16) bool {
	got, mended, e := Fix(data, check)
	return got == api.Data{} && mended == 0 && e == api.ErrCorrupt
}

// P3.3: any two bits of zeros and their check bits.
func TestFixAnyTwo(t *testing.T) {
	for i := range codeBits {
		data, check := turn(api.Data{}, 0, i)
		for j := range i {
			if x, y := turn(data, check, j); !corrupt(x, y) {
				t.Fatalf("the bits %d and %d aren't seen", j, i)
			}
		}
	}
}

// P3.3: two bits of data of many kinds: both in the data, both in the check bits, one in each.
func TestFixTwo(t *testing.T) {
	next := numbers(7)
	for n, data := range samples() {
		check := Check(data)
		for i := range codeBits {
			for _, j := range []int{0, dataBits - 1, dataBits, codeBits - 1, codeBits - 1 - i, int(next()) % codeBits} {
				if j == i {
					continue
				}
				x, y := turn(data, check, i)
				x, y = turn(x, y, j)
				if !corrupt(x, y|uint16(j%8)<<13) {
					t.Fatalf("the sample %d: the bits %d and %d aren't seen", n, i, j)
				}
			}
		}
	}
}

// P3.2: all check bits that there are, whatever the data: 3 bits and more that are turned, places beyond the last one.
func TestFixAnyCheck(t *testing.T) {
	places := plainPlaces()
	data := sample(11)
	right := plainCheck(data, places)
	found := map[int]int{}
	for i, p := range places {
		found[p] = i
	}
	for check := range 1 << 16 {
		differ := (uint16(check) ^ right) & 4095
		odd := bits.OnesCount16((uint16(check)^right)&8191)%2 == 1
		want, mended, code := data, 1, api.OK
		i, isPlace := found[int(differ)]
		switch {
		case differ == 0 && !odd:
			mended = 0
		case odd && bits.OnesCount16(differ) < 2:
		case odd && isPlace:
			want[i/8] ^= 1 << (i % 8)
		default:
			want, mended, code = api.Data{}, 0, api.ErrCorrupt
		}
		if got, n, e := Fix(data, uint16(check)); got != want || n != mended || e != code {
			t.Fatalf("%016b, where %013b is right: %d, %v, not %d, %v", check, right, n, e, mended, code)
		}
	}
}

// P3.2: the first place that no data bit has, and the ones about it.
func TestFixBeyondTheLastPlace(t *testing.T) {
	for _, place := range []uint16{2061, 2062, 2063, 3000, 4094, 4095} {
		check := place
		if bits.OnesCount16(check)%2 == 0 {
			check |= 1 << 12
		}
		if !corrupt(api.Data{}, check) {
			t.Errorf("the place %d is taken for a data bit's", place)
		}
	}
	for _, place := range []uint16{2047, 2049, 2059, 2060} {
		check := place
		if bits.OnesCount16(check)%2 == 0 {
			check |= 1 << 12
		}
		want, _ := turn(api.Data{}, 0, int(place)-bits.Len16(place)-1)
		if got, n, e := Fix(api.Data{}, check); got != want || n != 1 || e != api.OK {
			t.Errorf("the place %d: %d, %v", place, n, e)
		}
	}
}

// P3.2: data and check bits that have nothing to do with each other, against the definition.
func TestFixWhatever(t *testing.T) {
	places := plainPlaces()
	next := numbers(23)
	for n := range uint32(60) {
		data, check := sample(n+40), uint16(next())
		want, mended, code := plainFix(data, check, places)
		if got, n, e := Fix(data, check); got != want || n != mended || e != code {
			t.Errorf("%v, %016b: %d, %v, not %d, %v", data, check, n, e, mended, code)
		}
	}
}

// Rule 5: the data that are handed in stay, also where a bit of them is mended.
func TestDataStay(t *testing.T) {
	right := sample(5)
	check := Check(right)
	wrong, _ := turn(right, check, 77)
	data := wrong
	got, _, _ := Fix(data, check)
	if data != wrong || got != right {
		t.Error("the data that were handed in were changed")
	}
	if Check(data); data != wrong {
		t.Error("Check changes the data")
	}
}

// wild calls everything with data and check bits of all kinds, and gives all that was answered.
func wild() (checks []uint16, fixed []api.Data, codes []int) {
	next := numbers(99)
	for n := range uint32(400) {
		data := sample(n)
		if n < 14 {
			data = samples()[n]
		}
		checks = append(checks, Check(data))
		for _, check := range []uint16{0, 1, 0x0fff, 0x1000, 0x1fff, 0x2000, 0x8000, 0xe000, 0xffff, uint16(next())} {
			got, mended, e := Fix(data, check)
			fixed, codes = append(fixed, got), append(codes, mended, int(e))
		}
	}
	return checks, fixed, codes
}

// P1, P2: no call panics, whatever it is given, and two runs of the same calls give the same answers.
func TestWild(t *testing.T) {
	checks, fixed, codes := wild()
	checks2, fixed2, codes2 := wild()
	for i := range checks {
		if checks[i] != checks2[i] {
			t.Fatalf("Check's answer %d differs", i)
		}
	}
	for i := range fixed {
		if fixed[i] != fixed2[i] || codes[2*i] != codes2[2*i] || codes[2*i+1] != codes2[2*i+1] {
			t.Fatalf("Fix's answer %d differs", i)
		}
	}
}

func BenchmarkCheck(b *testing.B) {
	data := sample(1)
	for b.Loop() {
		Check(data)
	}
}
