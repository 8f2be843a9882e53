package page_test

import (
	"bytes"
	"encoding/hex"
	"fmt"
	"hash/crc32"
	"math"
	"reflect"
	"slices"
	"strings"
	"testing"

	"coppice/api"
	"coppice/branch"
	"coppice/chain"
	"coppice/leaf"
	"coppice/meta"
)

// inline is an item whose value stands in it.
func inline(key, value string) api.Item {
	return api.Item{Key: []byte(key), Value: []byte(value), Size: len(value)}
}

// chained is an item whose value lies in a chain.
func chained(key string, size, first int) api.Item {
	return api.Item{Key: []byte(key), Size: size, First: first}
}

func leafOf(items ...api.Item) api.Page { return api.Page{Kind: 1, Items: items} }

// branchOf is a branch with these separators, and the kids that it is given.
func branchOf(level int, seps []string, kids ...api.Kid) api.Page {
	p := api.Page{Kind: 2, Level: level, Kids: kids}
	for _, s := range seps {
		p.Seps = append(p.Seps, []byte(s))
	}
	return p
}

func chainOf(next int, data []byte) api.Page { return api.Page{Kind: 3, Next: next, Data: data} }

func freesOf(next int, list ...int) api.Page { return api.Page{Kind: 4, Next: next, List: list} }

// metaOf is a head's page, by the head's numbers in their order.
func metaOf(version, count, root, height, keys, first, free int) api.Page {
	return api.Page{Kind: 5, Head: api.Head{Version: version, Count: count, Root: root, Height: height, Keys: keys, First: first, Free: free}}
}

// kid is K(no, keys).
func kid(no, keys int) api.Kid { return api.Kid{No: no, Keys: keys} }

// kidsFor are kids that may be, one more than n.
func kidsFor(n int) []api.Kid {
	var l []api.Kid
	for i := range n + 1 {
		l = append(l, kid(2+i*257, 1+i*65537))
	}
	return l
}

// someBytes are n bytes, hardly any two neighbours alike.
func someBytes(n int) []byte {
	b := make([]byte, n)
	for i := range b {
		b[i] = byte(i*7 + i/256 + 1)
	}
	return b
}

// someNumbers are n numbers that rise, from a first one on.
func someNumbers(first, n int) []int {
	l := make([]int, n)
	for i := range l {
		l[i] = first + i
	}
	return l
}

// fullLeaf is a leaf of eight items whose body has no byte left.
func fullLeaf() api.Page {
	p := leafOf()
	for _, key := range "abcdefgh" {
		p.Items = append(p.Items, inline(string(key), strings.Repeat("v", 505)))
	}
	return p
}

// crowdedLeaf is a leaf of many items without values whose body has no byte left.
func crowdedLeaf() api.Page {
	p := leafOf()
	for i := range 584 {
		p.Items = append(p.Items, inline(fmt.Sprintf("%03d", i), ""))
	}
	return p
}

// fullBranch is a branch whose body has no byte left.
func fullBranch() api.Page {
	var seps []string
	for i := range 313 {
		seps = append(seps, string([]byte{'a' + byte(i/256), byte(i)}))
	}
	seps[312] += "0123456789"
	return branchOf(2, seps, kidsFor(313)...)
}

// likely are pages of all five kinds that Encode takes, with the edges of each kind.
func likely() []api.Page {
	return slices.Concat(likelyLeaves(), likelyBranches(), likelyChains(), likelyFrees(), likelyHeads())
}

func likelyLeaves() []api.Page {
	return []api.Page{
		leafOf(inline("k", "vv")),
		leafOf(inline("k", "")),
		leafOf(inline("ab", ""), inline("abc", "yz")),
		leafOf(inline("a", "x"), inline("b", "y")),
		leafOf(chained("k", 600, 9)),
		leafOf(inline("a", "in"), chained("b", 513, 2), chained("c", 262144, 524286), inline("d", strings.Repeat("\x00", 512))),
		leafOf(inline("\x00", "\x00"), inline("\xff", "\xff")),
		leafOf(inline(strings.Repeat("x", 254), "1"), inline(strings.Repeat("x", 255), "2")),
		fullLeaf(),
		crowdedLeaf(),
	}
}

func likelyBranches() []api.Page {
	return []api.Page{
		branchOf(1, nil, kid(2, 1)),
		branchOf(15, nil, kid(524286, 4294967295)),
		branchOf(1, []string{"m"}, kid(2, 1), kid(3, 5)),
		branchOf(2, []string{"ma", "mb"}, kid(2, 1), kid(3, 1), kid(9, 300)),
		branchOf(3, []string{"\x00", "\x00\x00", "\xff"}, kidsFor(3)...),
		branchOf(5, []string{strings.Repeat("x", 254), strings.Repeat("x", 255)}, kidsFor(2)...),
		fullBranch(),
	}
}

func likelyChains() []api.Page {
	return []api.Page{
		chainOf(0, []byte("abc")),
		chainOf(0, []byte{0}),
		chainOf(0, []byte{0, 0}),
		chainOf(0, someBytes(4084)),
		chainOf(0, someBytes(4085)),
		chainOf(2, someBytes(4085)),
		chainOf(524286, make([]byte, 4085)),
	}
}

func likelyFrees() []api.Page {
	return []api.Page{
		freesOf(0),
		freesOf(0, 2),
		freesOf(0, 524286),
		freesOf(0, 2, 5, 300),
		freesOf(0, someNumbers(2, 1020)...),
		freesOf(0, someNumbers(2, 1021)...),
		freesOf(2, someNumbers(3, 1021)...),
		freesOf(524286, someNumbers(523266, 1021)...),
	}
}

func likelyHeads() []api.Page {
	return []api.Page{
		metaOf(1, 2, 0, 0, 0, 0, 0),
		metaOf(258, 300, 7, 2, 1000, 299, 3),
		metaOf(259, 300, 299, 16, 1<<32-1, 0, 0),
		metaOf(2, 3, 0, 0, 0, 2, 1),
		metaOf(1<<62, 524287, 524286, 16, 1<<32-1, 524286, 524285),
		metaOf(1<<62-1, 524287, 2, 1, 1, 2, 1),
	}
}

// refused is a page that its kind's Encode refuses, and how.
type refused struct {
	p    api.Page
	want api.Errno
}

// wrong are pages without a spare field for each error of each kind's Encode.
func wrong() []refused {
	tooBig := fullBranch()
	tooBig.Seps[0] = append(tooBig.Seps[0], 0)
	return []refused{
		{leafOf(), api.ErrLeaf},
		{leafOf(inline("", "x")), api.ErrSize},
		{leafOf(api.Item{Key: []byte("k"), Size: -1}), api.ErrSize},
		{leafOf(inline("k", "x"), chained("l", 262145, 9)), api.ErrSize},
		{leafOf(chained("k", 600, 1)), api.ErrLeaf},
		{leafOf(api.Item{Key: []byte("k"), Value: []byte("x"), Size: 2}), api.ErrLeaf},
		{leafOf(api.Item{Key: []byte("k"), Value: []byte("x"), Size: 1, First: 5}), api.ErrLeaf},
		{leafOf(inline("b", ""), inline("a", "")), api.ErrOrder},
		{leafOf(inline("a", ""), inline("a", "")), api.ErrOrder},
		{leafOf(append(fullLeaf().Items, inline("i", ""))...), api.ErrTooBig},
		{branchOf(0, nil), api.ErrBranch},
		{branchOf(0, nil, kid(2, 1)), api.ErrBranch},
		{branchOf(16, nil, kid(2, 1)), api.ErrBranch},
		{branchOf(1, nil), api.ErrBranch},
		{branchOf(1, []string{"m"}, kid(2, 1)), api.ErrBranch},
		{branchOf(1, nil, kid(1, 1)), api.ErrKid},
		{branchOf(1, nil, kid(524287, 1)), api.ErrKid},
		{branchOf(1, nil, kid(2, 0)), api.ErrKid},
		{branchOf(1, []string{""}, kid(2, 1), kid(3, 1)), api.ErrSize},
		{branchOf(1, []string{"b", "a"}, kidsFor(2)...), api.ErrOrder},
		{branchOf(1, []string{"a", "a"}, kidsFor(2)...), api.ErrOrder},
		{tooBig, api.ErrTooBig},
		{chainOf(1, []byte("abc")), api.ErrKid},
		{chainOf(524287, someBytes(4085)), api.ErrKid},
		{chainOf(-1, nil), api.ErrKid},
		{chainOf(0, nil), api.ErrData},
		{chainOf(7, []byte("abc")), api.ErrData},
		{chainOf(0, someBytes(4086)), api.ErrData},
		{freesOf(1), api.ErrKid},
		{freesOf(524287, someNumbers(2, 1021)...), api.ErrKid},
		{freesOf(9), api.ErrList},
		{freesOf(0, 5, 5), api.ErrList},
		{freesOf(0, 1), api.ErrList},
		{freesOf(0, someNumbers(2, 1022)...), api.ErrList},
		{metaOf(0, 0, 0, 0, 0, 0, 0), api.ErrHead},
		{metaOf(0, 2, 0, 0, 0, 0, 0), api.ErrHead},
		{metaOf(1, 1, 0, 0, 0, 0, 0), api.ErrHead},
		{metaOf(1, 3, 2, 0, 1, 0, 0), api.ErrHead},
		{metaOf(1, 3, 0, 0, 0, 2, 0), api.ErrHead},
	}
}

// noKinds are numbers that are none of a kind; some of them would be one in a byte, or in four.
func noKinds() []int {
	return []int{math.MinInt, -1 << 32, -256, -255, -251, -5, -1, 0, 6, 7, 127, 128, 255, 256, 257, 258, 261, 513, 1<<16 + 1, 1 << 31, 1<<32 + 1, 1<<32 + 5, 1<<62 + 3, math.MaxInt}
}

// has names the fields that each kind has, as the chapter's table does.
func has(kind int) []string {
	return [][]string{1: {"Items"}, 2: {"Level", "Seps", "Kids"}, 3: {"Next", "Data"}, 4: {"Next", "List"}, 5: {"Head"}}[kind]
}

// names are the fields of a page but Kind.
func names() []string {
	return []string{"Items", "Level", "Seps", "Kids", "Next", "Data", "List", "Head"}
}

// plainSpare tells whether a field that the page's kind has not is not zero.
func plainSpare(p api.Page) bool {
	for _, name := range names() {
		field := reflect.ValueOf(p).FieldByName(name)
		empty := field.IsZero() || field.Kind() == reflect.Slice && field.Len() == 0
		if !empty && !slices.Contains(has(p.Kind), name) {
			return true
		}
	}
	return false
}

// plainEncode goes through P8.1 word by word.
func plainEncode(p api.Page) ([]byte, api.Errno) {
	if p.Kind < 1 || p.Kind > 5 {
		return nil, api.ErrPageKind
	}
	if plainSpare(p) {
		return nil, api.ErrSpare
	}
	var body []byte
	var err api.Errno
	switch p.Kind {
	case 1:
		body, err = leaf.Encode(p.Items)
	case 2:
		body, err = branch.Encode(p.Level, p.Seps, p.Kids)
	case 3:
		body, err = chain.EncodeData(p.Next, p.Data)
	case 4:
		body, err = chain.EncodeList(p.Next, p.List)
	case 5:
		body, err = meta.Encode(p.Head)
	}
	if err != api.OK {
		return nil, err
	}
	return sealed(body), api.OK
}

// plainDecode goes through P8.2 word by word.
func plainDecode(b []byte) (api.Page, api.Errno) {
	if len(b) != 4096 {
		return api.Page{}, api.ErrLength
	}
	body := b[:4092]
	if !bytes.Equal(b, sealed(body)) {
		return api.Page{}, api.ErrSum
	}
	p, err := api.Page{Kind: int(body[0])}, api.ErrPageKind
	switch p.Kind {
	case 1:
		p.Items, err = leaf.Decode(body)
	case 2:
		p.Level, p.Seps, p.Kids, err = branch.Decode(body)
	case 3:
		p.Next, p.Data, err = chain.DecodeData(body)
	case 4:
		p.Next, p.List, err = chain.DecodeList(body)
	case 5:
		p.Head, err = meta.Decode(body)
	}
	if err != api.OK {
		return api.Page{}, err
	}
	return p, api.OK
}

// sealed is a body of any length with its sum behind it, made without package crc.
func sealed(body []byte) []byte {
	sum := crc32.ChecksumIEEE(body)
	return slices.Concat(body, []byte{byte(sum), byte(sum >> 8), byte(sum >> 16), byte(sum >> 24)})
}

// padded lays zeros behind b up to a body's length.
func padded(b []byte) []byte { return slices.Concat(b, make([]byte, 4092-len(b))) }

// fromHex is a page as the chapter's examples write it: the bytes of its beginning, and its sum.
func fromHex(t *testing.T, begin, sum string) []byte {
	t.Helper()
	one, err := hex.DecodeString(strings.ReplaceAll(begin, " ", ""))
	two, fault := hex.DecodeString(sum)
	if err != nil || fault != nil || len(two) != 4 {
		t.Fatal(begin, sum)
	}
	return append(padded(one), two...)
}

// same tells whether two pages are the same in all their fields, nil and the empty list being one.
func same(a, b api.Page) bool {
	return a.Kind == b.Kind && a.Level == b.Level && a.Next == b.Next && a.Head == b.Head &&
		slices.EqualFunc(a.Items, b.Items, sameItem) && slices.EqualFunc(a.Seps, b.Seps, bytes.Equal) &&
		slices.Equal(a.Kids, b.Kids) && bytes.Equal(a.Data, b.Data) && slices.Equal(a.List, b.List)
}

func sameItem(a, b api.Item) bool {
	return bytes.Equal(a.Key, b.Key) && bytes.Equal(a.Value, b.Value) && a.Size == b.Size && a.First == b.First
}

// tell is a page in few words.
func tell(p api.Page) string {
	text := fmt.Sprintf("%+v", p)
	if len(text) > 200 {
		text = text[:200] + " .."
	}
	return text
}

// noise answers one number behind the other, always the same ones.
func noise(seed uint64) func(n int) int {
	return func(n int) int {
		seed = seed*6364136223846793005 + 1442695040888963407
		return int((seed >> 33) % uint64(n))
	}
}

// anyStrings are up to n strings of noise that rise, many of them beginning alike.
func anyStrings(next func(int) int, n int) []string {
	var l []string
	for range n {
		s := make([]byte, 1+next(5))
		for i := range s {
			s[i] = "aab\x00\xff"[next(5)]
		}
		l = append(l, string(s))
	}
	slices.Sort(l)
	return slices.Compact(l)
}

// anyNumbers are up to n numbers of noise that rise.
func anyNumbers(next func(int) int, n int) []int {
	var l []int
	for range n {
		l = append(l, 2+next([]int{40, 524285}[next(2)]))
	}
	slices.Sort(l)
	return slices.Compact(l)
}

// anyPage is a page of noise that Encode takes.
func anyPage(next func(int) int) api.Page {
	switch 1 + next(5) {
	case 1:
		p := leafOf()
		for _, key := range anyStrings(next, 1+next(6)) {
			it := chained(key, 513+next(261632), 2+next(524285))
			if next(3) > 0 {
				it = inline(key, string(someBytes(next(513))))
			}
			p.Items = append(p.Items, it)
		}
		return p
	case 2:
		seps := anyStrings(next, next(30))
		return branchOf(1+next(15), seps, kidsFor(len(seps))...)
	case 3:
		if next(2) == 0 {
			return chainOf(2+next(524285), someBytes(4085))
		}
		return chainOf(0, someBytes(1+next(4085)))
	case 4:
		if next(2) == 0 {
			return freesOf(2+next(524285), someNumbers(2+next(523000), 1021)...)
		}
		return freesOf(0, anyNumbers(next, next(1021))...)
	}
	p := metaOf(1+next(1<<30)<<next(32), 3+next(524285), 0, 0, 0, 0, 0)
	if next(3) > 0 {
		p.Head.Root, p.Head.Height, p.Head.Keys = 2+next(p.Head.Count-2), 1+next(16), 1+next(1<<31-1)
	}
	if next(3) > 0 {
		p.Head.First, p.Head.Free = 2+next(p.Head.Count-2), 1+next(p.Head.Count-2)
	}
	return p
}
