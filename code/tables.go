package code

import "vesper/api"

// A row is the sixteen ops of one high four bits. Where all of them are alike, a table by the high four bits tells of them; the other rows are split, and tables by the low four bits tell of these.

// splitRow is 0 of a row that is alike throughout, else one more than its place in the tables of split rows.
var splitRow = [16]uint8{0x0: 1, 0x3: 2, 0x6: 3, 0x7: 4, 0xc: 5, 0xf: 6}

var rowNames = [16]string{
	0x1: "INC", 0x2: "DEC", 0x4: "LDA", 0x5: "STR", 0x8: "GLO", 0x9: "GHI", 0xa: "PLO", 0xb: "PHI", 0xd: "SEP", 0xe: "SEX",
}

var splitNames = [6][16]string{
	{"IDL", "LDN", "LDN", "LDN", "LDN", "LDN", "LDN", "LDN", "LDN", "LDN", "LDN", "LDN", "LDN", "LDN", "LDN", "LDN"},
	{"BR", "BQ", "BZ", "BDF", "B1", "B2", "B3", "B4", "SKP", "BNQ", "BNZ", "BNF", "BN1", "BN2", "BN3", "BN4"},
	{"IRX", "OUT", "OUT", "OUT", "OUT", "OUT", "OUT", "OUT", "NUL", "INP", "INP", "INP", "INP", "INP", "INP", "INP"},
	{"RET", "DIS", "LDXA", "STXD", "ADC", "SDB", "SHRC", "SMB", "SAV", "MARK", "REQ", "SEQ", "ADCI", "SDBI", "SHLC", "SMBI"},
	{"LBR", "LBQ", "LBZ", "LBDF", "NOP", "LSNQ", "LSNZ", "LSNF", "LSKP", "LBNQ", "LBNZ", "LBNF", "LSIE", "LSQ", "LSZ", "LSDF"},
	{"LDX", "OR", "AND", "XOR", "ADD", "SD", "SHR", "SM", "LDI", "ORI", "ANI", "XRI", "ADI", "SDI", "SHL", "SMI"},
}

// Short words keep a row of the tables below on one line.
const (
	bare  = api.FormNone
	reg   = api.FormReg
	port  = api.FormPort
	octet = api.FormByte
	short = api.FormShort
	long  = api.FormLong
)

var rowForms = [16]api.Form{
	0x1: reg, 0x2: reg, 0x4: reg, 0x5: reg, 0x8: reg, 0x9: reg, 0xa: reg, 0xb: reg, 0xd: reg, 0xe: reg,
}

var splitForms = [6][16]api.Form{
	{bare, reg, reg, reg, reg, reg, reg, reg, reg, reg, reg, reg, reg, reg, reg, reg},
	{short, short, short, short, short, short, short, short, bare, short, short, short, short, short, short, short},
	{bare, port, port, port, port, port, port, port, bare, port, port, port, port, port, port, port},
	{bare, bare, bare, bare, bare, bare, bare, bare, bare, bare, bare, bare, octet, octet, bare, octet},
	{long, long, long, long, bare, bare, bare, bare, bare, long, long, long, bare, bare, bare, bare},
	{bare, bare, bare, bare, bare, bare, bare, bare, octet, octet, octet, octet, octet, octet, bare, octet},
}

// layout is what a form says of all its instructions: their bytes, the digits of what stands behind the name, and the greatest number that may stand there.
type layout struct {
	bytes, digits, most int
}

var layouts = [api.FormLong + 1]layout{
	bare: {1, 0, 0}, reg: {1, 1, 15}, port: {1, 1, 7}, octet: {2, 2, 255}, short: {2, 2, 255}, long: {3, 4, 65535},
}

// The uses of the bus that there are, ports aside: the register that points, and whether a byte is read, stored by the processor or taken from outside; own is a byte that nobody takes.
const (
	nOnly uint8 = iota
	nRead
	nStore
	nOwn
	xOnly
	xRead
	xStore
	xTake
	pOnly
	pRead
	store2
	read0
)

var uses = [...]api.Use{
	nOnly:  {Point: api.PointN},
	nRead:  {Point: api.PointN, Read: true},
	nStore: {Point: api.PointN, Write: true, Own: true},
	nOwn:   {Point: api.PointN, Own: true},
	xOnly:  {Point: api.PointX},
	xRead:  {Point: api.PointX, Read: true},
	xStore: {Point: api.PointX, Write: true, Own: true},
	xTake:  {Point: api.PointX, Write: true},
	pOnly:  {Point: api.PointP},
	pRead:  {Point: api.PointP, Read: true},
	store2: {Point: api.Point2, Write: true, Own: true},
	read0:  {Point: api.Point0, Read: true},
}

var rowUses = [16]uint8{
	0x1: nOnly, 0x2: nOnly, 0x4: nRead, 0x5: nStore, 0x8: nOwn, 0x9: nOwn, 0xa: nOwn, 0xb: nOwn, 0xd: nOwn, 0xe: nOwn,
}

var splitUses = [6][16]uint8{
	{read0, nRead, nRead, nRead, nRead, nRead, nRead, nRead, nRead, nRead, nRead, nRead, nRead, nRead, nRead, nRead},
	{pRead, pRead, pRead, pRead, pRead, pRead, pRead, pRead, pRead, pRead, pRead, pRead, pRead, pRead, pRead, pRead},
	{xRead, xRead, xRead, xRead, xRead, xRead, xRead, xRead, xOnly, xTake, xTake, xTake, xTake, xTake, xTake, xTake},
	{xRead, xRead, xRead, xStore, xRead, xRead, xOnly, xRead, xStore, store2, pOnly, pOnly, pRead, pRead, pOnly, pRead},
	{pRead, pRead, pRead, pRead, pRead, pRead, pRead, pRead, pRead, pRead, pRead, pRead, pRead, pRead, pRead, pRead},
	{xRead, xRead, xRead, xRead, xRead, xRead, xOnly, xRead, pRead, pRead, pRead, pRead, pRead, pRead, pOnly, pRead},
}
