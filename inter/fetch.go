package inter

// The interpreter. Its first page: how it begins, its fetch loop, and the orders that wipe the page, draw on it, return, and draw lots.
//
// R4 is the fetch loop's program counter, R3 that of what an order does: so SEP 4 ends an order. R5, RA and R8 are PC, I and the timers; R2 is the stack, and what it points to is a byte of the moment. RB's high byte is the page that is shown; its low one is at the orders' hands. R0, R1 and R9 are the refresh routine's. The fetch loop sets for each order:
//   R3: where it is done, with X 6, DF off; R5: its second byte.
//   R6, R7: VX and VY. RF: I once more.
//   RD: X (high), the order's first byte (low).
// RC's high byte is 0, its low one of the moment. RE changes with each order, and lots are drawn by it.
//
// What begins with 0, E or F and is no order, and what could do harm (a call or a return beyond the stack's ends, a write below 0200), is where the interpreter stays for good: at a branch to itself.

// beginning lets the part that clears the page do so, wipes V0 to VF below it, and switches the chip on, as EF1 comes on, in line 76 or 204: somewhat later, and the first interrupt would find the refresh routine out of step.
const beginning = `
	at 0000
	GHI 0			; nought: P is 0 still
	PHI 3
	PHI 4
	PHI c
	PHI 8
	PLO 8
	PHI a
	PLO a
	PLO 5
	LDI 02
	PHI 5
	LDI low begun
	PLO 4
	LDI low clear
	PLO 3
	SEP 3
begun:
	LDI 00
	STXD			; X is 7, and R7 has come from the page to VF
	GLO 7
	XRI ef
	BNZ to begun
light:
	B1 to light
dark:
	BN1 to dark
	INP 1			; the byte that comes with it goes below V0
`

// fetching is the fetch loop.
const fetching = `
fetch:
	LDI 0e
	PHI 6
	PHI 7
	GLO a
	PLO f
	GHI a
	PHI f
	INC e
	LDA 5
	PLO d
	ANI 0f
	PHI d
	ORI f0
	PLO 6
	LDN 5
	SHR
	SHR
	SHR
	SHR
	ORI f0
	PLO 7
	GLO d
	SHR
	SHR
	SHR
	ANI 1e
	ADI low orders		; DF is off behind it
	PLO c
	LDA c
	PHI 3
	LDN c
	PLO 3
	SEX 6
	SEP 3
	BR to fetch
`

// kinds are the places of the orders, by their first digit.
const kinds = `
orders:
	address nought
	address jump
	address call
	address skip-is
	address skip-not
	address skip-same
	address set
	address add
	address reckon
	address skip-other
	address point
	address jump-by
	address random
	address draw
	address keys
	address choose
`

// noughts are the orders that begin with 0: there are two.
const noughts = `
nought:
	GHI d
no-nought:
	BNZ to no-nought
	LDA 5
	XRI e0
	BZ to clear
	XRI 0e			; e0 and 0e are ee
no-return:
	BNZ to no-return
	GLO 2
	XRI cf
empty:
	BZ to empty
	INC 2
	LDA 2
	PHI 5
	LDN 2
	PLO 5
	SEP 4
clear:
	GHI b
	PHI 7
	LDI ff
	PLO 7
	SEX 7
wipe:
	LDI 00
	STXD
	GHI 7
	XRI 0e
	BNZ to wipe
	SEP 4
`

// drawing lays rows onto the page. RB is where a row's left half goes; RD has both halves of a row, left and right; RC counts rows, R7's high byte is how far they are shifted, its low one counts that.
const drawing = `
draw:
	LDN 7
	SHL
	SHL
	SHL
	STR 2
	LDN 6
	ANI 07
	PHI 7
	LDN 6
	ANI 3f
	SHR
	SHR
	SHR
	SEX 2
	OR
	PLO b
	LDA 5
	ANI 0f
	PLO c
	LDI ff
	PLO 6
	LDI 00
	STR 6
	SEX b
row:
	GLO c
	BZ to drawn
	DEC c
	LDA f
	PHI d
	LDI 00
	PLO d
	GHI 7
	PLO 7
shift:
	GLO 7
	BZ to shifted
	DEC 7
	GHI d
	SHR
	PHI d
	GLO d
	SHRC
	PLO d
	BR to shift
shifted:
	GHI d
	AND
	BZ to left
	LDI 01
	STR 6
left:
	GHI d
	XOR
	STR b
	GLO b
	ANI 07
	XRI 07
	BZ to next-row		; the right half is cut off
	INC b
	GLO d
	AND
	BZ to right
	LDI 01
	STR 6
right:
	GLO d
	XOR
	STR b
	DEC b
next-row:
	GLO b
	ADI 08
	PLO b
	BNF to row		; else the rows below are cut off
drawn:
	SEP 4
`

// throwing draws lots: RE's low byte grows, by one with each order and by b5 here, and its high one by that: 257 times itself, and more. So RE goes through all words.
const throwing = `
random:
	GLO e
	ADI b5
	PLO e
	STR 2
	GHI e
	SEX 2
	ADC
	PHI e
	SEX 5
	AND
	INC 5
	STR 6
	SEP 4
powers:
	data 64 0a 01
`
