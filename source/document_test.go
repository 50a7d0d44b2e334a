package source

import (
	"fmt"
	"reflect"
	"regexp"
	"strconv"
	"strings"
	"testing"

	"vesper/api"
)

// draw is a number below n, of a fixed row of numbers.
func draw(d *uint64, n int) int {
	*d = *d*6364136223846793005 + 1442695040888963407
	return int(*d >> 33 % uint64(n))
}

// The names of chapter 2, by what stands behind them.
var formNames = map[api.Form]string{
	api.FormNone:  "IDL SKP IRX NUL RET DIS LDXA STXD ADC SDB SHRC SMB SAV MARK REQ SEQ SHLC NOP LSNQ LSNZ LSNF LSKP LSIE LSQ LSZ LSDF LDX OR AND XOR ADD SD SHR SM SHL",
	api.FormReg:   "LDN INC DEC LDA STR GLO GHI PLO PHI SEP SEX",
	api.FormPort:  "OUT INP",
	api.FormByte:  "ADCI SDBI SMBI LDI ORI ANI XRI ADI SDI SMI",
	api.FormShort: "BR BQ BZ BDF B1 B2 B3 B4 BNQ BNZ BNF BN1 BN2 BN3 BN4",
	api.FormLong:  "LBR LBQ LBZ LBDF LBNQ LBNZ LBNF",
}

// named is what chapter 2 says of a name: its form, its operands, their digits, its bytes.
type named struct {
	name        string
	form        api.Form
	least, most int
	digits      int
	size        int
}

func allNames() []named {
	var all []named
	for form := api.FormNone; form <= api.FormLong; form++ {
		for _, name := range strings.Fields(formNames[form]) {
			n := named{name: name, form: form}
			switch form {
			case api.FormNone:
				n.size = 1
			case api.FormReg:
				n.most, n.digits, n.size = 15, 1, 1
			case api.FormPort:
				n.least, n.most, n.digits, n.size = 1, 7, 1, 1
			case api.FormByte, api.FormShort:
				n.most, n.digits, n.size = 255, 2, 2
			case api.FormLong:
				n.most, n.digits, n.size = 65535, 4, 3
			}
			if name == "LDN" {
				n.least = 1
			}
			all = append(all, n)
		}
	}
	return all
}

var byName = func() map[string]named {
	table := map[string]named{}
	for _, n := range allNames() {
		table[n.name] = n
	}
	return table
}()

func findNamed(name string) (named, bool) {
	n, found := byName[name]
	return n, found
}

// The table of names is all of the 256 ops.
func TestAllNames(t *testing.T) {
	ops := 0
	for _, n := range allNames() {
		if n.size > 1 {
			ops++
		} else {
			ops += n.most - n.least + 1
		}
	}
	if ops != 256 {
		t.Errorf("%d ops", ops)
	}
}

const (
	nameForm = `([a-z][a-z0-9-]{0,15})`
	gap      = `[ \t]+`
	tail     = `[ \t]*$`
)

var labelName = regexp.MustCompile(`^` + nameForm + `$`)

// twinMayBe is what the chapter says of an item: one that has what its kind has, and nothing else, and that is right.
func twinMayBe(i api.Item) bool {
	only, right := api.Item{Kind: i.Kind}, false
	switch i.Kind {
	case api.ItemLabel:
		only.Name, right = i.Name, labelName.MatchString(i.Name)
	case api.ItemCode:
		n, found := findNamed(i.Name)
		only.Name = i.Name
		if i.Part == api.PartNone {
			only.Arg, right = i.Arg, found && n.least <= i.Arg && i.Arg <= n.most
		} else {
			only.Label, only.Part = i.Label, i.Part
			fits := map[api.Form]string{api.FormByte: "high low", api.FormShort: "all", api.FormLong: "all"}[n.form]
			part := map[api.Part]string{api.PartAll: "all", api.PartHigh: "high", api.PartLow: "low"}[i.Part]
			right = found && part != "" && strings.Contains(fits, part) && labelName.MatchString(i.Label)
		}
	case api.ItemData:
		only.Bytes, right = i.Bytes, len(i.Bytes) > 0 && len(i.Bytes) < 257
	case api.ItemAt:
		only.Arg, right = i.Arg, i.Arg >= 0 && i.Arg < 65536
	case api.ItemAddress:
		only.Label, right = i.Label, labelName.MatchString(i.Label)
	}
	return right && same(i, only)
}

// same holds two items against each other; nil and empty lists are the same.
func same(a, b api.Item) bool {
	if len(a.Bytes) == 0 && len(b.Bytes) == 0 {
		a.Bytes, b.Bytes = nil, nil
	}
	return reflect.DeepEqual(a, b)
}

func sameItems(a, b []api.Item) bool {
	if len(a) != len(b) {
		return false
	}
	for n := range a {
		if !same(a[n], b[n]) {
			return false
		}
	}
	return true
}

// show is a thing as a text that is not too long for a message.
func show(v any) string { return fmt.Sprintf("%.300s", fmt.Sprintf("%+v", v)) }

// twinSize is how many bytes an item that may be has.
func twinSize(i api.Item) int {
	switch i.Kind {
	case api.ItemCode:
		n, _ := findNamed(i.Name)
		return n.size
	case api.ItemData:
		return len(i.Bytes)
	case api.ItemAddress:
		return 2
	}
	return 0
}

// twinText is the text of items that may be, written once more by the chapter.
func twinText(l []api.Item) string {
	var s strings.Builder
	for _, i := range l {
		switch i.Kind {
		case api.ItemLabel:
			fmt.Fprintf(&s, "%s:", i.Name)
		case api.ItemCode:
			n, _ := findNamed(i.Name)
			fmt.Fprintf(&s, " %s", i.Name)
			switch {
			case i.Part == api.PartAll:
				fmt.Fprintf(&s, " to %s", i.Label)
			case i.Part == api.PartHigh:
				fmt.Fprintf(&s, " high %s", i.Label)
			case i.Part == api.PartLow:
				fmt.Fprintf(&s, " low %s", i.Label)
			case n.digits > 0:
				fmt.Fprintf(&s, " %0*x", n.digits, i.Arg)
			}
		case api.ItemData:
			fmt.Fprintf(&s, " data % x", i.Bytes)
		case api.ItemAt:
			fmt.Fprintf(&s, " at %04x", i.Arg)
		case api.ItemAddress:
			fmt.Fprintf(&s, " address %s", i.Label)
		}
		s.WriteByte('\n')
	}
	return s.String()
}

// lineForm is how the lines of one sort look, and the item of such a line's pieces.
type lineForm struct {
	form *regexp.Regexp
	item func(m []string) api.Item
}

func formOf(form string, item func(m []string) api.Item) lineForm {
	return lineForm{regexp.MustCompile(`^` + form + tail), item}
}

// codeForm is the lines of the instructions of one form, with what may stand behind their names.
func codeForm(form api.Form, behind string) lineForm {
	names := strings.ReplaceAll(formNames[form], " ", "|")
	return formOf(gap+`(`+names+`)`+behind, func(m []string) api.Item {
		i := api.Item{Kind: api.ItemCode, Name: m[1]}
		switch {
		case len(m) > 4 && m[4] != "":
			i.Part, i.Label = map[string]api.Part{"to": api.PartAll, "high": api.PartHigh, "low": api.PartLow}[m[3]], m[4]
		case len(m) > 2:
			i.Arg = worth(m[2])
		}
		return i
	})
}

var lineForms = []lineForm{
	formOf(nameForm+`:`, func(m []string) api.Item { return api.Item{Kind: api.ItemLabel, Name: m[1]} }),
	formOf(gap+`at`+gap+`([0-9a-f]{4})`, func(m []string) api.Item { return api.Item{Kind: api.ItemAt, Arg: worth(m[1])} }),
	formOf(gap+`address`+gap+nameForm, func(m []string) api.Item { return api.Item{Kind: api.ItemAddress, Label: m[1]} }),
	formOf(gap+`data((?:`+gap+`[0-9a-f]{2}){1,256})`, func(m []string) api.Item {
		i := api.Item{Kind: api.ItemData}
		for _, word := range strings.Fields(m[1]) {
			i.Bytes = append(i.Bytes, byte(worth(word)))
		}
		return i
	}),
	codeForm(api.FormNone, ``),
	codeForm(api.FormReg, gap+`([0-9a-f])`),
	codeForm(api.FormPort, gap+`([1-7])`),
	codeForm(api.FormByte, gap+`(?:([0-9a-f]{2})|(high|low)`+gap+nameForm+`)`),
	codeForm(api.FormShort, gap+`(?:([0-9a-f]{2})|(to)`+gap+nameForm+`)`),
	codeForm(api.FormLong, gap+`(?:([0-9a-f]{4})|(to)`+gap+nameForm+`)`),
}

func worth(digits string) int {
	n, _ := strconv.ParseUint(digits, 16, 16)
	return int(n)
}

// twinLine is the item of a line without its remark, which has a word.
func twinLine(line string) (api.Item, bool) {
	for _, f := range lineForms {
		if m := f.form.FindStringSubmatch(line); m != nil {
			i := f.item(m)
			return i, i.Name != "LDN" || i.Arg != 0
		}
	}
	return api.Item{}, false
}

// twinParse reads a text by the forms of its lines.
func twinParse(text string) ([]api.Item, api.Errno, int) {
	if len(text) > 65536 {
		return nil, api.ErrLong, 0
	}
	var l []api.Item
	lines := strings.Split(text, "\n")
	if lines[len(lines)-1] == "" {
		lines = lines[:len(lines)-1]
	}
	for n, line := range lines {
		if at := strings.Index(line, ";"); at >= 0 {
			line = line[:at]
		}
		if strings.Trim(line, " \t") == "" {
			continue
		}
		i, ok := twinLine(line)
		if !ok {
			return nil, api.ErrSourceText, n + 1
		}
		l = append(l, i)
	}
	if len(l) > 4096 {
		return nil, api.ErrLong, 0
	}
	return l, api.OK, 0
}

// wantItem holds Check, Size and Print of an item, alone and behind another one, against the twin.
func wantItem(t *testing.T, i api.Item) {
	t.Helper()
	l := []api.Item{{Kind: api.ItemAt}, i, {}}
	if !twinMayBe(i) {
		if e, n := Check(l); e != api.ErrSourceItem || n != 1 {
			t.Fatalf("Check of %s: %d, %d", show(i), e, n)
		}
		if size, e := Size(i); size != 0 || e != api.ErrSourceItem {
			t.Fatalf("Size of %s: %d, %d", show(i), size, e)
		}
		if s, e := Print(l[1:2]); s != "" || e != api.ErrSourceItem {
			t.Fatalf("Print of %s: %.200q, %d", show(i), s, e)
		}
		return
	}
	if e, n := Check(l[:2]); e != api.OK || n != 0 {
		t.Fatalf("Check of %s: %d, %d", show(i), e, n)
	}
	if e, n := Check(l); e != api.ErrSourceItem || n != 2 {
		t.Fatalf("Check of %s and one that may not be: %d, %d", show(i), e, n)
	}
	if size, e := Size(i); size != twinSize(i) || e != api.OK {
		t.Fatalf("Size of %s: %d, %d", show(i), size, e)
	}
	wantThereAndBack(t, l[1:2])
}

// wantThereAndBack: Print writes of items that may be what the twin writes, and Parse reads them there.
func wantThereAndBack(t *testing.T, l []api.Item) {
	t.Helper()
	want := twinText(l)
	text, e := Print(l)
	if text != want || e != api.OK {
		t.Fatalf("Print of %s: %.200q, %d; want %.200q", show(l), text, e, want)
	}
	if back, e, at := Parse(text); !sameItems(back, l) || e != api.OK || at != 0 {
		t.Fatalf("Parse of %.200q: %s, %d, %d", text, show(back), e, at)
	}
}

// wantText holds Parse of a text against the twin; true, if it is taken.
func wantText(t *testing.T, text string) bool {
	t.Helper()
	want, wantE, wantAt := twinParse(text)
	l, e, at := Parse(text)
	if !sameItems(l, want) || e != wantE || at != wantAt {
		t.Fatalf("Parse of %.200q (%d bytes): %s, %d, %d; want %s, %d, %d", text, len(text), show(l), e, at, show(want), wantE, wantAt)
	}
	return e == api.OK
}

// wantFault: Parse of the text answers nothing but that error and that line.
func wantFault(t *testing.T, text string, want api.Errno, line int) {
	t.Helper()
	if l, e, at := Parse(text); len(l) != 0 || e != want || at != line {
		t.Errorf("Parse of %.60q (%d bytes): %d items, %d, %d; want %d, %d", text, len(text), len(l), e, at, want, line)
	}
}

// wantItems: Parse of the text answers just these.
func wantItems(t *testing.T, text string, want ...api.Item) {
	t.Helper()
	if l, e, at := Parse(text); !sameItems(l, want) || e != api.OK || at != 0 {
		t.Errorf("Parse of %.200q (%d bytes): %s, %d, %d; want %s", text, len(text), show(l), e, at, show(want))
	}
}

var fadeItems = []api.Item{
	{Kind: api.ItemAt, Arg: 0x0200},
	{Kind: api.ItemLabel, Name: "fade"},
	{Kind: api.ItemCode, Name: "LDI", Label: "fade", Part: api.PartHigh},
	{Kind: api.ItemCode, Name: "BR", Arg: 0xab},
	{Kind: api.ItemCode, Name: "LBR", Label: "fade", Part: api.PartAll},
	{Kind: api.ItemData, Bytes: []byte{0x01, 0xfe}},
	{Kind: api.ItemAddress, Label: "fade"},
}

const fadeText = " at 0200\nfade:\n LDI high fade\n BR ab\n LBR to fade\n data 01 fe\n address fade\n"

var nop = api.Item{Kind: api.ItemCode, Name: "NOP"}

// P13.3, P13.4: the chapter's items and their text.
func TestTextExample(t *testing.T) {
	if s, e := Print(fadeItems); s != fadeText || e != api.OK {
		t.Errorf("Print: %q, %d", s, e)
	}
	wantItems(t, fadeText, fadeItems...)
	wantItems(t, strings.TrimSuffix(fadeText, "\n"), fadeItems...)
}

// P13.1: the chapter's row of Check.
func TestCheckExamples(t *testing.T) {
	for _, i := range []api.Item{
		{Kind: api.ItemLabel, Name: "Fade"},
		{Kind: api.ItemCode, Name: "LDI", Label: "x", Part: api.PartAll},
		{Kind: api.ItemCode, Name: "LDN"},
		{Kind: api.ItemData},
	} {
		if e, n := Check([]api.Item{i}); e != api.ErrSourceItem || n != 0 {
			t.Errorf("Check of %s: %d, %d", show(i), e, n)
		}
	}
}

// P13.2: the chapter's row of Size.
func TestSizeExamples(t *testing.T) {
	for _, x := range []struct {
		item api.Item
		size int
	}{
		{api.Item{Kind: api.ItemCode, Name: "LBR"}, 3},
		{api.Item{Kind: api.ItemCode, Name: "LBR", Label: "fade", Part: api.PartAll}, 3},
		{api.Item{Kind: api.ItemData, Bytes: []byte{0x01, 0xfe}}, 2},
		{api.Item{Kind: api.ItemAddress, Label: "fade"}, 2},
		{api.Item{Kind: api.ItemLabel, Name: "fade"}, 0},
	} {
		if n, e := Size(x.item); n != x.size || e != api.OK {
			t.Errorf("Size of %s: %d, %d", show(x.item), n, e)
		}
	}
}

// P13.4: the chapter's rows of Parse.
func TestParseExamples(t *testing.T) {
	for _, text := range []string{"NOP", " NOP NOP", " BR 0ab", " at 200", "a: NOP"} {
		wantFault(t, text, api.ErrSourceText, 1)
	}
	wantItems(t, "\tNOP; done\n\n", nop)
	wantItems(t, " LBR fade", api.Item{Kind: api.ItemCode, Name: "LBR", Arg: 64222})
}

// P13.4: the sources of the document's examples of the whole, and the line of the one that is none.
func TestSourcesOfTheWhole(t *testing.T) {
	wantItems(t, " at 8000\n OUT 4 ; the latch is let go\n data 00\n at 0002\n LDI c8\n ADI 64\n PLO a\nend:\n BR to end\n",
		api.Item{Kind: api.ItemAt, Arg: 0x8000},
		api.Item{Kind: api.ItemCode, Name: "OUT", Arg: 4},
		api.Item{Kind: api.ItemData, Bytes: []byte{0}},
		api.Item{Kind: api.ItemAt, Arg: 2},
		api.Item{Kind: api.ItemCode, Name: "LDI", Arg: 0xc8},
		api.Item{Kind: api.ItemCode, Name: "ADI", Arg: 0x64},
		api.Item{Kind: api.ItemCode, Name: "PLO", Arg: 10},
		api.Item{Kind: api.ItemLabel, Name: "end"},
		api.Item{Kind: api.ItemCode, Name: "BR", Label: "end", Part: api.PartAll})
	wantFault(t, "\nNOP\n", api.ErrSourceText, 2)
}
