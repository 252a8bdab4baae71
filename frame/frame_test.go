package frame

import (
	"bytes"
	"encoding/binary"
	"fmt"
	"hash/crc32"
	"math/rand"
	"slices"
	"strings"
	"testing"

	"keelson/api"
	"keelson/ham"
)

const pageBits = 8 * api.PageSize

// blank gives a page of bytes 255.
func blank() (p api.Page) {
	for i := range p {
		p[i] = 255
	}
	return p
}

// turned gives the page with these bits turned.
func turned(p api.Page, bits ...int) api.Page {
	for _, i := range bits {
		p[i/8] ^= 1 << (i % 8)
	}
	return p
}

// zeros gives how many bits of the page are 0.
func zeros(p api.Page) int {
	n := 0
	for i := range pageBits {
		n += 1 - int(p[i/8])>>(i%8)&1
	}
	return n
}

// summed gives the data with the check sum of what stands ahead of it.
func summed(data api.Data) api.Data {
	binary.LittleEndian.PutUint32(data[252:], crc32.ChecksumIEEE(data[:252]))
	return data
}

// checked gives the page of data with their check bits.
func checked(data api.Data) (p api.Page) {
	copy(p[:], data[:])
	binary.LittleEndian.PutUint16(p[256:], ham.Check(data))
	return p
}

// plain is the chapter's page of a record.
func plain(kind byte, body []byte) api.Page {
	var data api.Data
	copy(data[:], append([]byte{kind, byte(len(body))}, body...))
	return checked(summed(data))
}

// sample gives n bytes, other ones for each seed.
func sample(n, seed int) []byte {
	b := make([]byte, n)
	rand.New(rand.NewSource(int64(seed))).Read(b)
	return b
}

// written is Write, where it can't but be OK.
func written(t *testing.T, kind byte, parts ...[]byte) api.Page {
	t.Helper()
	p, e := Write(kind, parts...)
	if e != api.OK {
		t.Fatalf("Write(%d): %v", kind, e)
	}
	return p
}

// reads tells of a page that isn't read as that record.
func reads(t *testing.T, what string, p api.Page, kind byte, body []byte, mended int) {
	t.Helper()
	if k, b, n, e := Read(p); k != kind || !bytes.Equal(b, body) || n != mended || e != api.OK {
		t.Errorf("%s: %d, %x, %d, %v, not %d, %x, %d", what, k, b, n, e, kind, body, mended)
	}
}

// refused tells of a page of which anything is read, or another error answered.
func refused(t *testing.T, what string, p api.Page, want api.Errno) {
	t.Helper()
	if k, b, n, e := Read(p); k != 0 || len(b) > 0 || n != 0 || e != want {
		t.Errorf("%s: %d, %x, %d, %v, not %v", what, k, b, n, e, want)
	}
}

// given is a record's kind and body.
type given struct {
	kind byte
	body []byte
}

// samples are records of many kinds.
func samples() []given {
	all := []given{
		{1, nil}, {254, nil}, {7, []byte("ab")}, {10, []byte{0}}, {2, []byte{255}}, {128, make([]byte, 240)},
		{254, bytes.Repeat([]byte{255}, 240)}, {127, bytes.Repeat([]byte{255}, 239)}, {255 - 32, bytes.Repeat([]byte{0x55}, 100)},
	}
	for i, n := range []int{1, 8, 100, 239, 240} {
		all = append(all, given{byte(17*i + 3), sample(n, i)})
	}
	return all
}

// P5.1: the page of each kind, and of a body of each size; the chapter's example.
func TestWrite(t *testing.T) {
	if p := written(t, 7, []byte("ab")); !bytes.Equal(p[:5], []byte{7, 2, 97, 98, 0}) {
		t.Errorf("the example: %v", p[:5])
	}
	for kind := 1; kind <= 254; kind++ {
		body := sample(kind%50, kind)
		if p := written(t, byte(kind), body); p != plain(byte(kind), body) {
			t.Errorf("the kind %d: %x", kind, p)
		}
	}
	for size := range 241 {
		body := sample(size, size)
		if p := written(t, 9, body); p != plain(9, body) {
			t.Errorf("%d bytes: %x", size, p)
		}
	}
}

// P5.1: where each byte of the page stands.
func TestWriteBytes(t *testing.T) {
	p := written(t, 200, []byte{1, 2, 3})
	want := append([]byte{200, 3, 1, 2, 3}, make([]byte, 247)...)
	sum := crc32.ChecksumIEEE(want)
	want = append(want, byte(sum), byte(sum>>8), byte(sum>>16), byte(sum>>24))
	check := ham.Check(api.Data(want))
	want = append(want, byte(check), byte(check>>8))
	if !bytes.Equal(p[:], want) {
		t.Errorf("%x, not %x", p, want)
	}
	for i, r := range samples() {
		if p := written(t, r.kind, r.body); p[257]>>5 != 0 {
			t.Errorf("the record %d: the last byte is %08b", i, p[257])
		}
	}
}

// P5.1: parts are one body, in their order.
func TestWriteParts(t *testing.T) {
	body := sample(60, 1)
	for i := range body {
		for _, j := range []int{i, (i + 60) / 2, 60} {
			if p := written(t, 5, body[:i], nil, body[i:j], []byte{}, body[j:]); p != plain(5, body) {
				t.Errorf("cut at %d and %d: %x", i, j, p)
			}
		}
	}
	if written(t, 5) != plain(5, nil) || written(t, 5, nil, nil) != plain(5, nil) {
		t.Error("a body of nothing")
	}
	if written(t, 5, []byte("b"), []byte("a")) != plain(5, []byte("ba")) {
		t.Error("the order of the parts")
	}
	one := body[:3]
	if written(t, 5, one, one) != plain(5, slices.Concat(one, one)) {
		t.Error("one part twice")
	}
}

// P5.1: what isn't a record.
func TestWriteRefuses(t *testing.T) {
	full := make([]byte, 240)
	for i, x := range []struct {
		kind  byte
		parts [][]byte
		want  api.Errno
	}{
		{0, nil, api.ErrArg},
		{255, nil, api.ErrArg},
		{0, [][]byte{full}, api.ErrArg},
		{255, [][]byte{full}, api.ErrArg},
		{1, [][]byte{full}, api.OK},
		{254, [][]byte{full[:120], full[120:]}, api.OK},
		{1, [][]byte{full, {0}}, api.ErrArg},
		{254, [][]byte{{0}, nil, full}, api.ErrArg},
		{1, [][]byte{make([]byte, 241)}, api.ErrArg},
		{1, [][]byte{make([]byte, 256)}, api.ErrArg},
		{1, [][]byte{make([]byte, 257)}, api.ErrArg},
		{1, [][]byte{make([]byte, 1<<16)}, api.ErrArg},
		{1, slices.Repeat([][]byte{full}, 500), api.ErrArg},
		{1, slices.Repeat([][]byte{{1}}, 240), api.OK},
		{1, slices.Repeat([][]byte{{1}}, 241), api.ErrArg},
		{1, make([][]byte, 1000), api.OK},
	} {
		p, e := Write(x.kind, x.parts...)
		if e != x.want || e != api.OK && p != (api.Page{}) {
			t.Errorf("%d: %v, not %v", i, e, x.want)
		}
	}
}

// P5.2: a page is blank if at most one of all its bits is 0; of such a page nothing is read.
func TestBlank(t *testing.T) {
	if !Blank(blank()) {
		t.Error("a page of bytes 255 isn't blank")
	}
	refused(t, "a page of bytes 255", blank(), api.ErrErased)
	for i := range pageBits {
		one := turned(blank(), i)
		if !Blank(one) {
			t.Errorf("it isn't blank where the bit %d is 0", i)
		}
		refused(t, fmt.Sprint("the bit ", i), one, api.ErrErased)
		for _, j := range []int{0, 1, 7, 8, 2047, 2048, 2061, 2062, 2063, (i + 1) % pageBits, (i + 8) % pageBits, pageBits - 1 - i} {
			if j == i {
				continue
			}
			two := turned(blank(), i, j)
			if Blank(two) {
				t.Errorf("it is blank where the bits %d and %d are 0", i, j)
			}
			refused(t, fmt.Sprint("the bits ", i, " and ", j), two, api.ErrCorrupt)
		}
	}
}

// P5.2: what isn't blank.
func TestNotBlank(t *testing.T) {
	if Blank(api.Page{}) {
		t.Error("a page of bytes 0 is blank")
	}
	refused(t, "a page of bytes 0", api.Page{}, api.ErrCorrupt)
	for i, r := range samples() {
		p := written(t, r.kind, r.body)
		for bit := range pageBits {
			if Blank(turned(p, bit)) {
				t.Errorf("the record %d: blank where the bit %d is turned", i, bit)
			}
		}
		if Blank(p) {
			t.Errorf("the record %d: blank", i)
		}
	}
}

// P5.2, P5.3: a page that was written is read as its record, also if any one bit of it is turned.
func TestRead(t *testing.T) {
	for i, r := range samples() {
		p := written(t, r.kind, r.body)
		reads(t, fmt.Sprint("the record ", i), p, r.kind, r.body, 0)
		for bit := range pageBits {
			reads(t, fmt.Sprint("the record ", i, " with the bit ", bit), turned(p, bit), r.kind, r.body, 1)
		}
	}
	for size := range 241 {
		body := sample(size, size+7)
		reads(t, fmt.Sprint(size, " bytes"), written(t, 3, body), 3, body, 0)
	}
	for kind := 1; kind <= 254; kind++ {
		reads(t, "each kind", written(t, byte(kind), []byte("x")), byte(kind), []byte("x"), 0)
	}
}

// P5.2: one of the three bits of the greatest weight is mended, by itself and beside another bit; of two nothing is read.
func TestReadTopBits(t *testing.T) {
	for i, r := range samples() {
		p := written(t, r.kind, r.body)
		for top := 2061; top < 2064; top++ {
			for bit := range 2061 {
				reads(t, fmt.Sprint("the record ", i, " with the bits ", bit, " and ", top), turned(p, bit, top), r.kind, r.body, 2)
			}
			refused(t, "one of the three, and two others", turned(p, top, 5, 900), api.ErrCorrupt)
		}
		for _, tops := range [][]int{{2061, 2062}, {2061, 2063}, {2062, 2063}, {2061, 2062, 2063}} {
			refused(t, fmt.Sprint("the record ", i, " with the bits ", tops), turned(p, tops...), api.ErrCorrupt)
			refused(t, fmt.Sprint("the record ", i, " with the bits 3 and ", tops), turned(p, append(tops, 3)...), api.ErrCorrupt)
		}
	}
}

// P5.2: of two turned bits, that none of the three is of, nothing is read.
func TestReadTwo(t *testing.T) {
	for i, r := range samples() {
		p := written(t, r.kind, r.body)
		for bit := range 2061 {
			for _, other := range []int{0, 1, 9, 2047, 2048, 2060, (bit + 1) % 2061, 2060 - bit} {
				if other != bit {
					refused(t, fmt.Sprint("the record ", i, " with the bits ", bit, " and ", other), turned(p, bit, other), api.ErrCorrupt)
				}
			}
		}
	}
}

// P5.2: three turned bits may be mended to other data, which the check sum then tells.
func TestReadThree(t *testing.T) {
	r := rand.New(rand.NewSource(1))
	for i, s := range samples() {
		p := written(t, s.kind, s.body)
		for range 3000 {
			bits := []int{r.Intn(687), 687 + r.Intn(687), 2*687 + r.Intn(687)}
			refused(t, fmt.Sprint("the record ", i, " with the bits ", bits), turned(p, bits...), api.ErrCorrupt)
		}
	}
}

// P5.2: data that aren't a record's, though their check bits are right, and their check sum too.
func TestReadNoRecord(t *testing.T) {
	for _, kind := range []byte{0, 255} {
		for _, body := range [][]byte{nil, []byte("ab"), make([]byte, 240)} {
			refused(t, fmt.Sprint("the kind ", kind), plain(kind, body), api.ErrCorrupt)
		}
	}
	for size := 241; size < 256; size++ {
		refused(t, fmt.Sprint(size, " bytes"), checked(summed(api.Data{0: 9, 1: byte(size)})), api.ErrCorrupt)
	}
	for at := 4; at < 252; at++ {
		data := api.Data{0: 9, 1: 2, 2: 97, 3: 98}
		data[at] = 1
		refused(t, fmt.Sprint("no nought at ", at), checked(summed(data)), api.ErrCorrupt)
	}
	for at := 242; at < 252; at++ {
		data := api.Data{0: 9, 1: 240}
		data[at] = 128
		refused(t, fmt.Sprint("behind a full body no nought at ", at), checked(summed(data)), api.ErrCorrupt)
	}
	for bit := range 32 {
		data := summed(api.Data{0: 9, 1: 2, 2: 97, 3: 98})
		data[252+bit/8] ^= 1 << (bit % 8)
		refused(t, fmt.Sprint("the check sum's bit ", bit), checked(data), api.ErrCorrupt)
	}
	data := summed(api.Data{0: 9, 1: 2, 2: 97, 3: 98})
	for _, x := range []struct{ at, byte int }{{0, 8}, {1, 1}, {1, 3}, {2, 96}, {3, 99}, {4, 1}} {
		wrong := data
		wrong[x.at] = byte(x.byte)
		refused(t, fmt.Sprint("the sum of other data, at ", x.at), checked(wrong), api.ErrCorrupt)
	}
}

// P5.2: data that aren't a record's by one bit stay so: what is mended is held against the record, too.
func TestReadMendedNoRecord(t *testing.T) {
	p := checked(summed(api.Data{0: 9, 1: 241}))
	for bit := range pageBits {
		refused(t, fmt.Sprint("the bit ", bit), turned(p, bit), api.ErrCorrupt)
	}
}

// P5.3: of a page that wasn't written wholly nothing is read, wherever the writing broke off.
func TestReadTorn(t *testing.T) {
	for i, r := range samples() {
		p := written(t, r.kind, r.body)
		for size := range api.PageSize {
			q := blank()
			copy(q[:size], p[:size])
			want := api.ErrCorrupt
			if zeros(q) <= 1 {
				want = api.ErrErased
			}
			refused(t, fmt.Sprint("the record ", i, ", ", size, " bytes"), q, want)
			if Blank(q) != (zeros(q) <= 1) {
				t.Errorf("the record %d, %d bytes: Blank is %v", i, size, Blank(q))
			}
			for bit := 2056; bit < pageBits; bit++ {
				if k, b, n, e := Read(turned(q, bit)); k != 0 || len(b) > 0 || n != 0 || e == api.OK {
					t.Errorf("the record %d, %d bytes, the bit %d: %d, %x, %d, %v", i, size, bit, k, b, n, e)
				}
			}
		}
	}
}

// P5.4: parts and pages aren't changed, the parts' spare room neither; a body is new memory.
func TestNothingIsShared(t *testing.T) {
	whole := sample(50, 3)
	kept := bytes.Clone(whole)
	parts := [][]byte{whole[:10], whole[20:21], nil}
	p := written(t, 6, parts...)
	if !bytes.Equal(whole, kept) || len(parts[0]) != 10 || len(parts[1]) != 1 || parts[2] != nil {
		t.Error("the parts were changed")
	}
	wrong := turned(p, 77, 2062)
	same := wrong
	_, one, _, _ := Read(wrong)
	_, two, _, _ := Read(wrong)
	if Blank(wrong); wrong != same {
		t.Error("the page was changed")
	}
	for i := range one[:cap(one)] {
		one[:cap(one)][i] ^= 255
	}
	if _, three, _, _ := Read(wrong); !bytes.Equal(two, three) || !bytes.Equal(two, append(bytes.Clone(kept[:10]), kept[20])) {
		t.Errorf("the bodies share memory: %x, %x", two, three)
	}
}

// wild calls everything with records and pages of all kinds, and gives all that was answered.
func wild() string {
	var told strings.Builder
	r := rand.New(rand.NewSource(5))
	for kind := range 256 {
		for _, size := range []int{0, 1, 239, 240, 241, 255, 256, 300} {
			p, e := Write(byte(kind), sample(size, kind))
			fmt.Fprintln(&told, p, e)
		}
	}
	for range 3000 {
		p := blank()
		copy(p[r.Intn(api.PageSize):], sample(r.Intn(40), r.Int()))
		if r.Intn(2) == 0 {
			p = checked(summed(api.Data(sample(api.Sector, r.Int()))))
		}
		kind, body, mended, e := Read(p)
		fmt.Fprintln(&told, kind, body, mended, e, Blank(p))
	}
	return told.String()
}

// P1, P2: no call panics, whatever it is given, and two runs of the same calls give the same answers.
func TestWild(t *testing.T) {
	if one, two := wild(), wild(); one != two {
		t.Error("two runs differ")
	}
}

func BenchmarkRead(b *testing.B) {
	p := plain(3, sample(200, 1))
	for b.Loop() {
		Read(p)
	}
}
