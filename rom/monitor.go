package rom

// The second page: the monitor, with P 3 and X 2.
//
// It goes round, looks at all keys, and shows what there is to be shown, each time anew. A key counts that was down in three rounds, and then up in three. A round takes 1094 of its own cycles. Of any 7336 cycles it has 3676, as the refresh routine takes 1830 of each frame: three rounds lie within them, and one look more at all keys. Of a frame it has 1838, in which there is no room for three. So what lasts for two frames is always long enough, and what lasts for one never is.
//
// RA is A. RB's high byte is the page that is shown. The registers' bytes, high and low:
//   RC: where the key at hand has its byte, the last 16 of the last page but one. The byte is 0, if the key was up in the round.
//   RD: whether the key that was found was down in the round ahead, too; how far it has come.
//   RE: not 0, as long as the screen is off, 1, if C is up by then; the key that was found last (its low four bits).
//   RF: a byte's first digit; the state: how many of the four digits have come, then as named in the part doing.
//   R6: where the next digit is shown. R7: numbers of the moment (low).
// What R2 points to is a byte of the moment.

// opening wipes the page. R0 stays at its first byte, so that nothing else is shown ahead of the first refresh.
const opening = `
	at 8100
monitor:
	GHI b
	PHI 0
	GLO b
	PLO 0
wipe:
	LDI 00
	STXD			; X is 0 still. There are 85 times 3 bytes, and the first one
	STXD
	STXD
	GLO 0
	BNZ to wipe
	STR 0
	PHI 8
	PLO 8			; no tone
	PHI a
	PLO a
	PLO f
	SEX 2
	GHI 3
	PHI 4
	PHI e
	LDI low two-digits
	PLO 4
	LDI high pictures
	PHI 5
`

// looking goes through the keys: R7 comes to be how many are down.
const looking = `
again:
	LDI 00
	PLO d
look:
	LDI 00
	PLO 7
	GHI 2
	PHI c
	LDI f0
	PLO c
key:
	STR 2			; a key's number is the low digit of where its byte lies
	OUT 2
	DEC 2
	LDI 00
	BN3 to key-is-up
	GLO e			; if there was one ahead of it in this round, that may have been let go since
	STR 2
	OUT 2
	DEC 2
	B3 to one-more
	LDI 00
	PLO 7
one-more:
	INC 7
	LDN c
	PHI d
	GLO c
	PLO e
key-is-up:
	STR c
	INC c
	GLO c
	BNZ to key
`

// counting says how far a key has come: 1 to 3 for as many rounds in which it alone was down (3 stands for more, too), 4 and 5 for one and two behind these in which none was. With the third of these it counts. 0: there is none that could, or one that was down beside another.
const counting = `
	GLO 7
	BZ to none-is-down
	SMI 01
	BNZ to drop
	GHI d
	BZ to gone-down
	GLO d
	BZ to looked
	SMI 03
	BZ to looked
	INC d
	BR to looked
gone-down:
	LDI 01
	BR to set
none-is-down:
	GLO d
	SMI 03
	BNF to drop
	INC d
	SMI 02
	BNZ to looked
`

// doing is what a key does that counts, by the state: 0 to 3 digits are wanted, 4 a command, 5 a byte's first digit, 6 its second one, 7 bytes are shown.
const doing = `
	GLO e
	ANI 0f
	STR 2
	GLO f
	SMI 04
	BNF to digit
	BZ to command
	SMI 01
	BZ to first
	SMI 01
	BNZ to next
	GHI f
	SHL
	SHL
	SHL
	SHL
	OR
	STR a
	DEC f
next:
	INC a
	BR to drop
digit:
	LDI 04
	PLO 7
shift:
	GLO a
	SHL
	PLO a
	GHI a
	SHLC
	PHI a
	DEC 7
	GLO 7
	BNZ to shift
	GLO a
	OR
	PLO a
further:
	INC f
	BR to drop
first:
	LDN 2
	PHI f
	BR to further
command:
	LDN 2
	BZ to further
	XRI 0a
	BNZ to drop
	LDI 07
	PLO f
drop:
	LDI 00
set:
	PLO d
`

// waiting lets a round begin with each edge of EF1, as long as the screen is off. C is looked at ahead of the other keys: so a key that goes down as C goes up is seen in this round. The screen comes on with the edge behind that round, in line 76 or 204; later, but ahead of the shown lines' end, rows would be shown that are none.
const waiting = `
looked:
	GHI e
	BZ to show
edge:
	BN1 to edge		; a round is longer than EF1 is on
	SMI 01
	BZ to switch-on
	SEX 3
	OUT 2
	data 0c
	SEX 2
	B3 to again
	LDI 01
	PHI e
	BR to look
switch-on:
	PHI e
	INP 1
	BR to look
`

// showing draws A and the byte there, two digits a call: of D, at R6, by the routine of R4.
const showing = `
show:
	LDI 19			; to make a round as long as it must be
	PLO 7
pass:
	DEC 7
	GLO 7
	BNZ to pass
	GHI b
	PHI 6
	LDI 00
	PLO 6
	GHI a
	SEP 4
	GLO a
	SEP 4
	INC 6
	INC 6
	LDN a
	SEP 4
	BR to look
shown:
	SEP 3			; leaves R4 at what lies behind it
two-digits:
	PLO 7
	SHR
	SHR
	SHR
	SHR
one-digit:
	STR 2
	SHL
	SHL
	ADD			; five times the digit
	ADI low pictures
	PLO 5
picture-row:
	LDA 5
	STR 6
	GLO 6
	ADI 08
	PLO 6
	SMI 28			; five rows on
	BNF to picture-row
	ADI 01
	PLO 6
	SHR			; a pair begins in an even column
	BNF to shown
	GLO 7
	ANI 0f
	BR to one-digit
`
